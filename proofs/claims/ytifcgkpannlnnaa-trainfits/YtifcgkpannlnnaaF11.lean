/- The law TrainFits. -/
import Derived.Test.YtifcgkpannlnnaaF10
import Derived.Test.YtifcgkpannlnnaaF5
import Derived.Test.YtifcgkpannlnnaaFull
import Derived.Test.YtifcgkpannlnnaaJ5
namespace Go.Proofs.Ytifcgkpannlnnaa
open Go.RowKit Fl
set_option maxRecDepth 100000

set_option maxHeartbeats 16000000 in
theorem lawFits (w : World) (d0 : Dr) (vr : Value) (x : Ax) (vt : Value) (wh : Nat) (n : Int) (hd : DrOk d0) (hbr : BRows w w.heap.size vr d0.routes) (hl : d0.routes.length ≤ 9223372036854775807) (hrl : ∀ r ∈ d0.routes, r.length ≤ 9223372036854775807)
    (hx : AxOk x) (ht : Rd w w.heap.size vt (bvals x.ts)) (htl : x.ts.length ≤ 9223372036854775807) (hw : wh < 256) (hn : -9223372036854775808 ≤ n ∧ n ≤ 9223372036854775807) :
    Calls Try.prog 3 #[drV d0 vr, axV x vt, .int .u8 (wh : Int), .int .i64 n] w (RetL true w) := by
  obtain ⟨Ar, kr, cr, hvr⟩ : ∃ A k c, vr = .slice A k c := by obtain ⟨vs, ⟨A, c, e, _⟩, _⟩ := hbr; exact ⟨A, _, c, e⟩
  subst hvr
  obtain ⟨At, ct, hvt⟩ : ∃ A c, vt = .slice A x.ts.length c := by obtain ⟨A, c, e, _⟩ := ht; exact ⟨A, c, by rw [e, bvals_length]⟩
  subst hvt
  have HDK := Lib.hid hd
  have HL : Hid (d0.routes.length ≤ 9223372036854775807 ∧ ∀ r ∈ d0.routes, r.length ≤ 9223372036854775807) := ⟨hl, hrl⟩
  have HAX := Lib.hid hx
  have HBR := Lib.hid hbr
  have HT := Lib.hid ht
  clear hd hl hrl hbr hx ht
  have HB0 := Lib.hid (below2 w (.cells #[.int .u8 (d0.form : Int), .int .u8 (d0.len : Int), .int .u8 (d0.speed : Int), .int .u16 (d0.mute : Int), .int .u16 (d0.wait : Int), .int .u8 (d0.cancel : Int), .int .u8 (d0.stay : Int), .int .u8 (d0.join : Int), .slice Ar kr cr] 25) (.cells #[.int .u8 (x.do_ : Int), .int .u8 (x.id : Int), .int .u8 (x.tk : Int), .int .u8 (x.fr : Int), .slice At x.ts.length ct, .int .u16 (x.ah : Int), .bool x.wh, .int .u8 (x.mo : Int)] 28))
  have HRW := Lib.hid ((Row.new w 25 #[.int .u8 (d0.form : Int), .int .u8 (d0.len : Int), .int .u8 (d0.speed : Int), .int .u16 (d0.mute : Int), .int .u16 (d0.wait : Int), .int .u8 (d0.cancel : Int), .int .u8 (d0.stay : Int), .int .u8 (d0.join : Int), .slice Ar kr cr]).alloc (.cells #[.int .u8 (x.do_ : Int), .int .u8 (x.id : Int), .int .u8 (x.tk : Int), .int .u8 (x.fr : Int), .slice At x.ts.length ct, .int .u16 (x.ah : Int), .bool x.wh, .int .u8 (x.mo : Int)] 28))
  have hr1 := Row.new (w.alloc (.cells #[.int .u8 (d0.form : Int), .int .u8 (d0.len : Int), .int .u8 (d0.speed : Int), .int .u16 (d0.mute : Int), .int .u16 (d0.wait : Int), .int .u8 (d0.cancel : Int), .int .u8 (d0.stay : Int), .int .u8 (d0.join : Int), .slice Ar kr cr] 25)) 28 #[.int .u8 (x.do_ : Int), .int .u8 (x.id : Int), .int .u8 (x.tk : Int), .int .u8 (x.fr : Int), .slice At x.ts.length ct, .int .u16 (x.ah : Int), .bool x.wh, .int .u8 (x.mo : Int)]
  rw [World.size_alloc] at hr1
  have HRX := Lib.hid hr1
  clear hr1
  unfold drV axV
  cases hs : small d0 with
  | false =>
    go_enter Try.func3, Try.ntmps3
    go_upto_region 1 with (fail)
    obtain ⟨g0, hg0⟩ : ∃ n, w.heap.size = n := ⟨_, rfl⟩
    obtain ⟨g1, hg1⟩ : ∃ n, g0 + 1 = n := ⟨_, rfl⟩
    rw [hg0] at HRW HRX ⊢
    rw [hg1] at HRX ⊢
    have HG0 : Hid (w.heap.size = g0 ∧ g0 + 1 = g1) := ⟨hg0, hg1⟩
    clear hg0 hg1
    generalize (w.alloc (.cells #[.int .u8 (d0.form : Int), .int .u8 (d0.len : Int), .int .u8 (d0.speed : Int), .int .u16 (d0.mute : Int), .int .u16 (d0.wait : Int), .int .u8 (d0.cancel : Int), .int .u8 (d0.stay : Int), .int .u8 (d0.join : Int), .slice Ar kr cr] 25)).alloc (.cells #[.int .u8 (x.do_ : Int), .int .u8 (x.id : Int), .int .u8 (x.tk : Int), .int .u8 (x.fr : Int), .slice At x.ts.length ct, .int .u16 (x.ah : Int), .bool x.wh, .int .u8 (x.mo : Int)] 28) = W0 at *
    go_wp2_with fail
    refine (nothing_any _).mono ?_; rintro e wA ⟨rfl, hbA⟩
    have HA := Lib.hid (HB0.out.trans (hbA.mono HB0.out.size))
    have HRA := Lib.hid (Below.row hbA HRW.out HRW.out.lt)
    have HXA := Lib.hid (Below.row hbA HRX.out HRX.out.lt)
    clear hbA HB0 HRW HRX
    have f0 := HRA.out.cell 0; have f1 := HRA.out.cell 1; have f2 := HRA.out.cell 2; have f3 := HRA.out.cell 3; have f4 := HRA.out.cell 4; have f5 := HRA.out.cell 5; have f6 := HRA.out.cell 6; have f7 := HRA.out.cell 7; have f8 := HRA.out.cell 8
    simp only [List.getElem?_toArray, List.getElem?_cons_zero, List.getElem?_cons_succ] at f0 f1 f2 f3 f4 f5 f6 f7 f8
    go_wp2_with fail
    refine (small_any wA d0 (.slice Ar kr cr) (HBR.out.up HA.out) HL.out.1 HL.out.2).mono ?_; rintro e wB ⟨rfl, hbB⟩
    clear f0 f1 f2 f3 f4 f5 f6 f7 f8
    rw [hs]
    have HB := Lib.hid (HA.out.trans (hbB.mono HA.out.size))
    have HRB := Lib.hid (Below.row hbB HRA.out HRA.out.lt)
    have HXB := Lib.hid (Below.row hbB HXA.out HXA.out.lt)
    clear hbB HA HRA HXA
    have x4 := HXB.out.cell 4
    simp only [List.getElem?_toArray, List.getElem?_cons_zero, List.getElem?_cons_succ] at x4
    go_wp2_with fail
    refine (nothing_any _).mono ?_; rintro e wZ ⟨rfl, hbZ⟩
    have HZ := Lib.hid (HB.out.trans (hbZ.mono HB.out.size))
    clear hbZ
    go_wp2_with fail
    go_ret
    exact ⟨rfl, HZ.out⟩
  | true =>
    by_cases h12 : x.ts.length ≤ 12
    · have h12i : ¬ (12 : Int) < (x.ts.length : Int) := by omega
      have h12n : ¬ 12 < x.ts.length := by omega
      go_enter Try.func3, Try.ntmps3
      go_upto_region 1 with (fail)
      obtain ⟨g0, hg0⟩ : ∃ n, w.heap.size = n := ⟨_, rfl⟩
      obtain ⟨g1, hg1⟩ : ∃ n, g0 + 1 = n := ⟨_, rfl⟩
      rw [hg0] at HRW HRX ⊢
      rw [hg1] at HRX ⊢
      have HG0 : Hid (w.heap.size = g0 ∧ g0 + 1 = g1) := ⟨hg0, hg1⟩
      clear hg0 hg1
      generalize (w.alloc (.cells #[.int .u8 (d0.form : Int), .int .u8 (d0.len : Int), .int .u8 (d0.speed : Int), .int .u16 (d0.mute : Int), .int .u16 (d0.wait : Int), .int .u8 (d0.cancel : Int), .int .u8 (d0.stay : Int), .int .u8 (d0.join : Int), .slice Ar kr cr] 25)).alloc (.cells #[.int .u8 (x.do_ : Int), .int .u8 (x.id : Int), .int .u8 (x.tk : Int), .int .u8 (x.fr : Int), .slice At x.ts.length ct, .int .u16 (x.ah : Int), .bool x.wh, .int .u8 (x.mo : Int)] 28) = W0 at *
      go_wp2_with fail
      refine (nothing_any _).mono ?_; rintro e wA ⟨rfl, hbA⟩
      have HA := Lib.hid (HB0.out.trans (hbA.mono HB0.out.size))
      have HRA := Lib.hid (Below.row hbA HRW.out HRW.out.lt)
      have HXA := Lib.hid (Below.row hbA HRX.out HRX.out.lt)
      clear hbA HB0 HRW HRX
      have f0 := HRA.out.cell 0; have f1 := HRA.out.cell 1; have f2 := HRA.out.cell 2; have f3 := HRA.out.cell 3; have f4 := HRA.out.cell 4; have f5 := HRA.out.cell 5; have f6 := HRA.out.cell 6; have f7 := HRA.out.cell 7; have f8 := HRA.out.cell 8
      simp only [List.getElem?_toArray, List.getElem?_cons_zero, List.getElem?_cons_succ] at f0 f1 f2 f3 f4 f5 f6 f7 f8
      go_wp2_with fail
      refine (small_any wA d0 (.slice Ar kr cr) (HBR.out.up HA.out) HL.out.1 HL.out.2).mono ?_; rintro e wB ⟨rfl, hbB⟩
      clear f0 f1 f2 f3 f4 f5 f6 f7 f8
      rw [hs]
      have HB := Lib.hid (HA.out.trans (hbB.mono HA.out.size))
      have HRB := Lib.hid (Below.row hbB HRA.out HRA.out.lt)
      have HXB := Lib.hid (Below.row hbB HXA.out HXA.out.lt)
      clear hbB HA HRA HXA
      have x4 := HXB.out.cell 4
      simp only [List.getElem?_toArray, List.getElem?_cons_zero, List.getElem?_cons_succ] at x4
      have f0 := HRB.out.cell 0; have f1 := HRB.out.cell 1; have f2 := HRB.out.cell 2; have f3 := HRB.out.cell 3; have f4 := HRB.out.cell 4; have f5 := HRB.out.cell 5; have f6 := HRB.out.cell 6; have f7 := HRB.out.cell 7; have f8 := HRB.out.cell 8
      simp only [List.getElem?_toArray, List.getElem?_cons_zero, List.getElem?_cons_succ] at f0 f1 f2 f3 f4 f5 f6 f7 f8
      go_wp2_with fail
      refine (full_any wB d0 (.slice Ar kr cr) HDK.out (HBR.out.up HB.out) hs).mono ?_; rintro e wC ⟨vL, rfl, hvL, hbL⟩
      clear f0 f1 f2 f3 f4 f5 f6 f7 f8
      have HC := Lib.hid (HB.out.trans (hbL.mono HB.out.size))
      have HXC := Lib.hid (Below.row hbL HXB.out HXB.out.lt)
      clear hbL HB HRB HXB x4
      have HFT : Hid (Fits (fullL d0)) := fullL_fits d0
      have HTM : Hid (Tame (fullL d0)) := tame_full d0
      have HSE := Lib.hid (full_secs d0)
      generalize fullL d0 = L at *
      have HVL := Lib.hid hvL
      obtain ⟨A0, k0, c0, A1, k1, c1, A2, k2, c2, A3, k3, c3, A4, k4, c4, t0, t1, t2, t3, t4, hv, -, -, -, -⟩ := hvL.lens
      subst hv
      clear hvL
      have hb2 := (Below.refl wC.heap.size wC).alloc (Nat.le_refl _) (.cells #[.slice A0 k0 c0, .slice A1 k1 c1, .slice A2 k2 c2, .slice A3 k3 c3, .slice A4 k4 c4, .int .i64 t0, .int .i64 t1, .int .i64 t2, .int .i64 t3, .int .i64 t4] 36)
      have HD := Lib.hid (HC.out.trans (hb2.mono HC.out.size))
      have HV2 := Lib.hid (HVL.out.up hb2)
      have HR2 := Lib.hid (Row.new wC 36 #[.slice A0 k0 c0, .slice A1 k1 c1, .slice A2 k2 c2, .slice A3 k3 c3, .slice A4 k4 c4, .int .i64 t0, .int .i64 t1, .int .i64 t2, .int .i64 t3, .int .i64 t4])
      have HX2 := Lib.hid (Below.row hb2 HXC.out HXC.out.lt)
      clear hb2 HC HVL HXC
      go_upto_region 4 with (fail)
      obtain ⟨nL, hnL⟩ : ∃ n, wC.heap.size = n := ⟨_, rfl⟩
      rw [hnL] at HR2 ⊢
      clear hnL
      generalize wC.alloc (.cells #[.slice A0 k0 c0, .slice A1 k1 c1, .slice A2 k2 c2, .slice A3 k3 c3, .slice A4 k4 c4, .int .i64 t0, .int .i64 t1, .int .i64 t2, .int .i64 t3, .int .i64 t4] 36) = wD at *
      have p0 := HR2.out.cell 0; have p1 := HR2.out.cell 1; have p2 := HR2.out.cell 2; have p3 := HR2.out.cell 3; have p4 := HR2.out.cell 4; have p5 := HR2.out.cell 5; have p6 := HR2.out.cell 6; have p7 := HR2.out.cell 7; have p8 := HR2.out.cell 8; have p9 := HR2.out.cell 9
      simp only [List.getElem?_toArray, List.getElem?_cons_zero, List.getElem?_cons_succ] at p0 p1 p2 p3 p4 p5 p6 p7 p8 p9
      go_wp2_with fail
      refine (new_any wD _ L HV2.out HFT.out).mono ?_; rintro e wE ⟨vg, rfl, hg, hbE⟩
      clear p0 p1 p2 p3 p4 p5 p6 p7 p8 p9
      have HE := Lib.hid (HD.out.trans (hbE.mono HD.out.size))
      have HV3 := Lib.hid (HV2.out.up hbE)
      have HR3 := Lib.hid (Below.row hbE HR2.out HR2.out.lt)
      have HX3 := Lib.hid (Below.row hbE HX2.out HX2.out.lt)
      have HGR := Lib.hid hg
      clear hg hbE HD HV2 HR2 HX2
      have y0 := HX3.out.cell 0; have y1 := HX3.out.frozen 0
      simp only [List.getElem?_toArray, List.getElem?_cons_zero] at y0
      have HNG : Hid (g1 < nL ∨ nL < g1) := by
        show _ ∨ _
        rcases Nat.lt_trichotomy g1 nL with h | h | h
        · exact .inl h
        · exfalso
          have h1 : wE.heap[g1]? = some (.cells #[.int .u8 (x.do_ : Int), .int .u8 (x.id : Int), .int .u8 (x.tk : Int), .int .u8 (x.fr : Int), .slice At x.ts.length ct, .int .u16 (x.ah : Int), .bool x.wh, .int .u8 (x.mo : Int)] 28 (0, 0)) := HX3.out
          have h2 : wE.heap[nL]? = some (.cells #[.slice A0 k0 c0, .slice A1 k1 c1, .slice A2 k2 c2, .slice A3 k3 c3, .slice A4 k4 c4, .int .i64 t0, .int .i64 t1, .int .i64 t2, .int .i64 t3, .int .i64 t4] 36 (0, 0)) := HR3.out
          rw [h, h2] at h1
          injection h1 with h1
          injection h1 with _ h3
          exact absurd h3 (by decide)
        · exact .inr h
      have HX4 : Hid (Row (wE.setCell ⟨g1, 0, none⟩ (.int .u8 0)) g1 28 #[.int .u8 0, .int .u8 (x.id : Int), .int .u8 (x.tk : Int), .int .u8 (x.fr : Int), .slice At x.ts.length ct, .int .u16 (x.ah : Int), .bool x.wh, .int .u8 (x.mo : Int)]) := HX3.out.set 0 (.int .u8 0)
      have HR4 : Hid (Row (wE.setCell ⟨g1, 0, none⟩ (.int .u8 0)) nL 36 #[.slice A0 k0 c0, .slice A1 k1 c1, .slice A2 k2 c2, .slice A3 k3 c3, .slice A4 k4 c4, .int .i64 t0, .int .i64 t1, .int .i64 t2, .int .i64 t3, .int .i64 t4]) := HR3.out.far (p := ⟨g1, 0, none⟩) (by have := HNG.out; show nL ≠ g1; omega) _
      have HG4 : Hid (IsGr (wE.setCell ⟨g1, 0, none⟩ (.int .u8 0)) wE.heap.size vg L) := HGR.out.k8 HX3.out y0 _
      have HV4 : Hid (LayV (wE.setCell ⟨g1, 0, none⟩ (.int .u8 0)) wE.heap.size (.agg #[.slice A0 k0 c0, .slice A1 k1 c1, .slice A2 k2 c2, .slice A3 k3 c3, .slice A4 k4 c4, .int .i64 t0, .int .i64 t1, .int .i64 t2, .int .i64 t3, .int .i64 t4]) L) := HV3.out.k8 (k8_set _ y0)
      have HE4 : Hid (Below w.heap.size w (wE.setCell ⟨g1, 0, none⟩ (.int .u8 0))) := HE.out.setCell (p := ⟨g1, 0, none⟩) (by have := HG0.out; simp; omega) _
      have HXO := Lib.hid (show x.id < 256 ∧ x.fr < 256 ∧ x.ah < 65536 ∧ x.mo < 256 from ⟨HAX.out.id, HAX.out.fr, HAX.out.ah, HAX.out.mo⟩)
      have HDG : Hid (wE.heap.size ≤ (wE.setCell ⟨g1, 0, none⟩ (.int .u8 0)).heap.size ∧ w.heap.size ≤ wE.heap.size) := ⟨by simp, HE.out.size⟩
      go_upto_region 6 with (fail)
      clear HGR HV3 HR3 HX3 HE y0 y1
      obtain ⟨DG, hDG⟩ : ∃ n, wE.heap.size = n := ⟨_, rfl⟩
      rw [hDG] at HG4 HV4 HDG
      clear hDG
      generalize wE.setCell ⟨g1, 0, none⟩ (.int .u8 0) = wF at *
      have HT4 : Hid (Rd wF DG (.slice At x.ts.length ct) (bvals x.ts)) := (HT.out.below HE4.out (Nat.le_refl _)).mono HDG.out.2 (fun _ _ => rfl)
      have HREP := Lib.hid (refReport_any wF DG _ L x.id x.tk x.fr x.ah x.mo x.wh At ct x.ts 0 HV4.out HDG.out.1 HFT.out HSE.out.1 HSE.out.2 HXO.out.1 HXO.out.2.1 HXO.out.2.2.1 HXO.out.2.2.2 HT4.out HAX.out.by_ (by omega))
      have HFIT := Lib.hid (rep_fits HTM.out x.fr x.ah x.mo x.ts HSE.out.1 HXO.out.2.1 (fun n hn => (HSE.out.2 n hn).1))
      have HT0 : Hid (0 < (repT L x.fr x.mo x.ts).length) := (walkGo_head L x.ts (1 + x.mo % 5) (1 + x.mo % 5) 0 [((x.fr % L.secs.length : Nat) : Int)] (((x.fr % L.secs.length : Nat) : Int), ((x.fr / 128 : Nat) : Int)) (by simp)).2
      have HTLE : Hid ((repT L x.fr x.mo x.ts).length ≤ 5) := by
        have := walkL_len L ((x.fr % L.secs.length : Nat) : Int) ((x.fr / 128 : Nat) : Int) x.ts (1 + x.mo % 5) (by omega)
        have h2 : x.mo % 5 < 5 := Nat.mod_lt _ (by decide)
        exact Nat.le_trans this (by omega)
      clear HXO HAX HT HSE HT4
      have x0 := HX4.out.cell 0; have x1 := HX4.out.cell 1; have x2 := HX4.out.cell 2; have x3 := HX4.out.cell 3; have x4 := HX4.out.cell 4; have x5 := HX4.out.cell 5; have x6 := HX4.out.cell 6; have x7 := HX4.out.cell 7
      simp only [List.getElem?_toArray, List.getElem?_cons_zero, List.getElem?_cons_succ] at x0 x1 x2 x3 x4 x5 x6 x7

      have p0 := HR4.out.cell 0; have p1 := HR4.out.cell 1; have p2 := HR4.out.cell 2; have p3 := HR4.out.cell 3; have p4 := HR4.out.cell 4; have p5 := HR4.out.cell 5; have p6 := HR4.out.cell 6; have p7 := HR4.out.cell 7; have p8 := HR4.out.cell 8; have p9 := HR4.out.cell 9
      simp only [List.getElem?_toArray, List.getElem?_cons_zero, List.getElem?_cons_succ] at p0 p1 p2 p3 p4 p5 p6 p7 p8 p9

      go_wp2_with fail
      refine HREP.out.mono ?_; rintro e w6 ⟨A7, c7, rfl, ho6, hb6⟩
      clear p0 p1 p2 p3 p4 p5 p6 p7 p8 p9

      clear x0 x1 x2 x3 x4 x5 x6 x7

      clear HREP
      obtain ⟨T, hT⟩ : ∃ T, repT L x.fr x.mo x.ts = T := ⟨_, rfl⟩
      obtain ⟨I8, hI⟩ : ∃ T : Int, ((x.id % 8 : Nat) : Int) = T := ⟨_, rfl⟩
      obtain ⟨dd, hdd⟩ : ∃ T : Int, 1 - ((x.fr / 128 : Nat) : Int) = T := ⟨_, rfl⟩
      obtain ⟨aa, haa⟩ : ∃ T : Int, ((repA L x.fr x.ah : Nat) : Int) = T := ⟨_, rfl⟩
      rw [hT] at HFIT HTLE HT0 ho6 ⊢
      rw [hdd, haa] at HFIT ⊢
      rw [hI]
      clear hT hI hdd haa
      have HE6 : Hid (Below w.heap.size w w6) := HE4.out.trans (hb6.mono (Nat.le_trans HDG.out.2 HDG.out.1))
      have HG6 := Lib.hid (HG4.out.keep hb6 HDG.out.1)
      have HV6 := Lib.hid (HV4.out.keep hb6 HDG.out.1)
      have HR6 := Lib.hid (Below.row hb6 HR4.out HR4.out.lt)
      have HD6 : Hid (DG ≤ w6.heap.size ∧ w.heap.size ≤ w6.heap.size) := ⟨Nat.le_trans HDG.out.1 hb6.size, HE6.out.size⟩
      have HT6 := Lib.hid (Rd.of_own ho6)
      clear ho6 hb6 HG4 HV4 HR4 HX4 HE4 HDG
      have HRM := Lib.hid (Row.new w6 42 (mcellsR 3 I8 0 dd aa x.wh (.slice A7 T.length c7)))
      have HB6 : Hid (Below w6.heap.size w6 (w6.alloc (.cells (mcellsR 3 I8 0 dd aa x.wh (.slice A7 T.length c7)) 42))) := (Below.refl _ _).alloc (Nat.le_refl _) _
      go_upto_region 7 with (fail)
      obtain ⟨nM, hnM⟩ : ∃ n, w6.heap.size = n := ⟨_, rfl⟩
      rw [hnM] at HRM HB6 HT6 HD6 ⊢
      have HNM := Lib.hid hnM
      clear hnM
      generalize w6.alloc (.cells (mcellsR 3 I8 0 dd aa x.wh (.slice A7 T.length c7)) 42) = w7 at *
      have HNL : Hid (nL < nM) := by have := HR6.out.lt; have := HNM.out; show _ < _; omega
      have HSZ7 : Hid (nM < w7.heap.size) := HRM.out.lt
      have HFP := Lib.hid (fits_any w7 DG vg L A7 c7 T 3 I8 0 dd aa x.wh (HG6.out.keep HB6.out HD6.out.1) (by have := HSZ7.out; have := HD6.out; omega) HFT.out ((HT6.out.below HB6.out (Nat.le_refl _)).mono (Nat.le_of_lt HSZ7.out) (fun _ _ => rfl)) (by have := HTLE.out; omega))
      rw [fits_eq HTM.out, HFIT.out] at HFP
      have m0 := HRM.out.cell 0; have m1 := HRM.out.cell 1; have m2 := HRM.out.cell 2; have m3 := HRM.out.cell 3; have m4 := HRM.out.cell 4; have m5 := HRM.out.cell 5; have m6 := HRM.out.cell 6
      simp only [List.getElem?_toArray, List.getElem?_cons_zero, List.getElem?_cons_succ] at m0 m1 m2 m3 m4 m5 m6

      have HR7 := Lib.hid (Below.row HB6.out HR6.out HNL.out)
      have p0 := HR7.out.cell 0; have p1 := HR7.out.cell 1; have p2 := HR7.out.cell 2; have p3 := HR7.out.cell 3; have p4 := HR7.out.cell 4; have p5 := HR7.out.cell 5; have p6 := HR7.out.cell 6; have p7 := HR7.out.cell 7; have p8 := HR7.out.cell 8; have p9 := HR7.out.cell 9
      simp only [List.getElem?_toArray, List.getElem?_cons_zero, List.getElem?_cons_succ] at p0 p1 p2 p3 p4 p5 p6 p7 p8 p9

      go_wp2_with fail
      refine HFP.out.mono ?_; rintro e w8 ⟨rfl, hb8⟩
      have HB8 : Hid (Below nM w6 w8) := HB6.out.trans (hb8.mono (Nat.le_of_lt HSZ7.out))
      have HM8 := Lib.hid (Below.row hb8 HRM.out HRM.out.lt)
      have HR8 := Lib.hid (Below.row hb8 HR7.out HR7.out.lt)
      have HSZ8 : Hid (nM < w8.heap.size) := HM8.out.lt
      clear m0 m1 m2 m3 m4 m5 m6

      clear p0 p1 p2 p3 p4 p5 p6 p7 p8 p9

      clear hb8 HB6 HRM HR7 HSZ7 HFP
      have HFR := Lib.hid (refFits_any w8 DG _ L A7 c7 T 3 I8 0 dd aa x.wh (HV6.out.keep HB8.out HD6.out.1) (by have := HSZ8.out; have := HD6.out; omega) HFT.out ((HT6.out.below HB8.out (Nat.le_refl _)).mono (Nat.le_of_lt HSZ8.out) (fun _ _ => rfl)) (by have := HTLE.out; omega))
      rw [HFIT.out] at HFR
      have m0 := HM8.out.cell 0; have m1 := HM8.out.cell 1; have m2 := HM8.out.cell 2; have m3 := HM8.out.cell 3; have m4 := HM8.out.cell 4; have m5 := HM8.out.cell 5; have m6 := HM8.out.cell 6
      simp only [List.getElem?_toArray, List.getElem?_cons_zero, List.getElem?_cons_succ] at m0 m1 m2 m3 m4 m5 m6

      have p0 := HR8.out.cell 0; have p1 := HR8.out.cell 1; have p2 := HR8.out.cell 2; have p3 := HR8.out.cell 3; have p4 := HR8.out.cell 4; have p5 := HR8.out.cell 5; have p6 := HR8.out.cell 6; have p7 := HR8.out.cell 7; have p8 := HR8.out.cell 8; have p9 := HR8.out.cell 9
      simp only [List.getElem?_toArray, List.getElem?_cons_zero, List.getElem?_cons_succ] at p0 p1 p2 p3 p4 p5 p6 p7 p8 p9

      go_wp2_with fail
      refine HFR.out.mono ?_; rintro e w9 ⟨rfl, hb9⟩
      have HB9 : Hid (Below nM w6 w9) := HB8.out.trans (hb9.mono (Nat.le_of_lt HSZ8.out))
      have HM9 := Lib.hid (Below.row hb9 HM8.out HM8.out.lt)
      have HR9 := Lib.hid (Below.row hb9 HR8.out HR8.out.lt)
      clear m0 m1 m2 m3 m4 m5 m6

      clear p0 p1 p2 p3 p4 p5 p6 p7 p8 p9

      clear hb9 HB8 HM8 HR8 HSZ8 HFR HFIT
      have HTL : Hid (Rd w6 nM (.slice A7 T.length c7) (ivals T)) := HT6.out
      obtain ⟨q, hq⟩ : ∃ q, wh % 6 = q := ⟨_, rfl⟩
      have hq6 : q = 0 ∨ q = 1 ∨ q = 2 ∨ q = 3 ∨ q = 4 ∨ q = 5 := by omega
      have f6 : ((wh : Int)).tmod 6 = (q : Int) := by rw [← hq, Int.tmod_eq_emod_of_nonneg (by omega)]; omega
      have f6e : (wh : Int) % 6 = (q : Int) := by omega
      have HTN := Lib.hid HTLE.out
      clear hq htl hw HT6 HTLE
      go_upto_region 9 with (fail)
      have m0 := HM9.out.cell 0; have m1 := HM9.out.cell 1; have m2 := HM9.out.cell 2; have m3 := HM9.out.cell 3; have m4 := HM9.out.cell 4; have m5 := HM9.out.cell 5; have m6 := HM9.out.cell 6
      simp only [List.getElem?_toArray, List.getElem?_cons_zero, List.getElem?_cons_succ] at m0 m1 m2 m3 m4 m5 m6

      have u3 := HM9.out.frozen 3; have u4 := HM9.out.frozen 4; have u6 := HM9.out.frozen 6
      obtain ⟨n9, hn9⟩ : ∃ k : Nat, w9.heap.size = k := ⟨_, rfl⟩
      have HN9 : Hid (w9.heap.size = n9 ∧ nM < n9) := ⟨hn9, by have := HM9.out.lt; omega⟩
      clear hn9
      rcases hq6 with rfl | rfl | rfl | rfl | rfl | rfl
      · have HMf : Hid (Row (w9.setCell ⟨nM, 3, none⟩ (.int .i64 n)) nM 42 (mcellsR 3 I8 0 n aa x.wh (.slice A7 T.length c7))) := HM9.out.set 3 (.int .i64 n)
        have HRf : Hid (Row (w9.setCell ⟨nM, 3, none⟩ (.int .i64 n)) nL 36 #[.slice A0 k0 c0, .slice A1 k1 c1, .slice A2 k2 c2, .slice A3 k3 c3, .slice A4 k4 c4, .int .i64 t0, .int .i64 t1, .int .i64 t2, .int .i64 t3, .int .i64 t4]) := HR9.out.far (p := ⟨nM, 3, none⟩) (by have := HNL.out; show nL ≠ nM; omega) _
        have HBf : Hid (Below nM w6 (w9.setCell ⟨nM, 3, none⟩ (.int .i64 n))) := HB9.out.setCell (p := ⟨nM, 3, none⟩) (Nat.le_refl _) _
        have HTf : Hid (Rd (w9.setCell ⟨nM, 3, none⟩ (.int .i64 n)) (w9.setCell ⟨nM, 3, none⟩ (.int .i64 n)).heap.size (.slice A7 T.length c7) (ivals T)) := (HTL.out.below HBf.out (Nat.le_refl _)).mono (by have := HMf.out.lt; omega) (fun _ _ => rfl)
        obtain ⟨t', ht'⟩ : ∃ t, t = T := ⟨_, rfl⟩
        have HLf : Hid (T.length ≤ 1000) := by have := HTN.out; show _ ≤ _; omega
        clear HM9 HR9 HB9 ht'
        go_upto_region 21 with (fail)
        clear m0 m1 m2 m3 m4 m5 m6 u3 u4 u6
        generalize w9.setCell ⟨nM, 3, none⟩ (.int .i64 n) = W at *
        obtain ⟨R, hR⟩ : ∃ R, fitsR L T n aa = R := ⟨_, rfl⟩
        have HC15 : Hid (∀ V, Below W.heap.size W V → Calls Try.prog 15 #[vg, .agg (mcellsR 3 I8 0 n aa x.wh (.slice A7 T.length c7))] V (RetL R V)) := fun V hV => by
          have h1 : Below nM w6 V := HBf.out.trans (hV.mono (Nat.le_of_lt HMf.out.lt))
          have h := fits_any V DG vg L A7 c7 T 3 I8 0 n aa x.wh (HG6.out.keep h1 HD6.out.1) (by have := hV.size; have := HMf.out.lt; have := HD6.out; omega) HFT.out (HTf.out.up hV) HLf.out
          rw [fits_eq HTM.out, hR] at h
          exact h
        have HC16 : Hid (∀ V, Below W.heap.size W V → Calls Try.prog 16 #[.agg #[.slice A0 k0 c0, .slice A1 k1 c1, .slice A2 k2 c2, .slice A3 k3 c3, .slice A4 k4 c4, .int .i64 t0, .int .i64 t1, .int .i64 t2, .int .i64 t3, .int .i64 t4], .agg (mcellsR 3 I8 0 n aa x.wh (.slice A7 T.length c7))] V (RetL R V)) := fun V hV => by
          have h1 : Below nM w6 V := HBf.out.trans (hV.mono (Nat.le_of_lt HMf.out.lt))
          have h := refFits_any V DG _ L A7 c7 T 3 I8 0 n aa x.wh (HV6.out.keep h1 HD6.out.1) (by have := hV.size; have := HMf.out.lt; have := HD6.out; omega) HFT.out (HTf.out.up hV) HLf.out
          rw [hR] at h
          exact h
        have HSS : Hid (∀ V, Below W.heap.size W V → V.cell? ⟨nL, 0, none⟩ = some (.slice A0 k0 c0) ∧ V.cell? ⟨nL, 1, none⟩ = some (.slice A1 k1 c1) ∧ V.cell? ⟨nL, 2, none⟩ = some (.slice A2 k2 c2) ∧ V.cell? ⟨nL, 3, none⟩ = some (.slice A3 k3 c3) ∧ V.cell? ⟨nL, 4, none⟩ = some (.slice A4 k4 c4) ∧ V.cell? ⟨nL, 5, none⟩ = some (.int .i64 t0) ∧ V.cell? ⟨nL, 6, none⟩ = some (.int .i64 t1) ∧ V.cell? ⟨nL, 7, none⟩ = some (.int .i64 t2) ∧ V.cell? ⟨nL, 8, none⟩ = some (.int .i64 t3) ∧ V.cell? ⟨nL, 9, none⟩ = some (.int .i64 t4) ∧ V.cell? ⟨nM, 0, none⟩ = some (.int .u8 3) ∧ V.cell? ⟨nM, 1, none⟩ = some (.int .i64 I8) ∧ V.cell? ⟨nM, 2, none⟩ = some (.int .i64 0) ∧ V.cell? ⟨nM, 3, none⟩ = some (.int .i64 n) ∧ V.cell? ⟨nM, 4, none⟩ = some (.int .i64 aa) ∧ V.cell? ⟨nM, 5, none⟩ = some (.bool x.wh) ∧ V.cell? ⟨nM, 6, none⟩ = some (.slice A7 T.length c7)) := fun V hV => ⟨(hV.cell (p := ⟨nL, 0, none⟩) (by have := HMf.out.lt; have := HNL.out; show nL < _; omega)).trans (HRf.out.cell 0), (hV.cell (p := ⟨nL, 1, none⟩) (by have := HMf.out.lt; have := HNL.out; show nL < _; omega)).trans (HRf.out.cell 1), (hV.cell (p := ⟨nL, 2, none⟩) (by have := HMf.out.lt; have := HNL.out; show nL < _; omega)).trans (HRf.out.cell 2), (hV.cell (p := ⟨nL, 3, none⟩) (by have := HMf.out.lt; have := HNL.out; show nL < _; omega)).trans (HRf.out.cell 3), (hV.cell (p := ⟨nL, 4, none⟩) (by have := HMf.out.lt; have := HNL.out; show nL < _; omega)).trans (HRf.out.cell 4), (hV.cell (p := ⟨nL, 5, none⟩) (by have := HMf.out.lt; have := HNL.out; show nL < _; omega)).trans (HRf.out.cell 5), (hV.cell (p := ⟨nL, 6, none⟩) (by have := HMf.out.lt; have := HNL.out; show nL < _; omega)).trans (HRf.out.cell 6), (hV.cell (p := ⟨nL, 7, none⟩) (by have := HMf.out.lt; have := HNL.out; show nL < _; omega)).trans (HRf.out.cell 7), (hV.cell (p := ⟨nL, 8, none⟩) (by have := HMf.out.lt; have := HNL.out; show nL < _; omega)).trans (HRf.out.cell 8), (hV.cell (p := ⟨nL, 9, none⟩) (by have := HMf.out.lt; have := HNL.out; show nL < _; omega)).trans (HRf.out.cell 9), (hV.cell (p := ⟨nM, 0, none⟩) (by have := HMf.out.lt; show nM < _; omega)).trans (HMf.out.cell 0), (hV.cell (p := ⟨nM, 1, none⟩) (by have := HMf.out.lt; show nM < _; omega)).trans (HMf.out.cell 1), (hV.cell (p := ⟨nM, 2, none⟩) (by have := HMf.out.lt; show nM < _; omega)).trans (HMf.out.cell 2), (hV.cell (p := ⟨nM, 3, none⟩) (by have := HMf.out.lt; show nM < _; omega)).trans (HMf.out.cell 3), (hV.cell (p := ⟨nM, 4, none⟩) (by have := HMf.out.lt; show nM < _; omega)).trans (HMf.out.cell 4), (hV.cell (p := ⟨nM, 5, none⟩) (by have := HMf.out.lt; show nM < _; omega)).trans (HMf.out.cell 5), (hV.cell (p := ⟨nM, 6, none⟩) (by have := HMf.out.lt; show nM < _; omega)).trans (HMf.out.cell 6)⟩
        have HBD : Hid (Below W.heap.size W W.drew) := (Below.refl _ _).drew
        have s0 := HSS.out W.drew HBD.out
        have HEf : Hid (Below w.heap.size w W) := HE6.out.trans (HBf.out.mono (by have := HD6.out; omega))
        have HSW : Hid (w.heap.size ≤ W.heap.size) := HEf.out.size
        obtain ⟨r0, r1, r2, r3, r4, r5, r6, r7, r8, r9, r10, r11, r12, r13, r14, r15, r16⟩ := (show _ from s0)
        clear hR
        go_region_held3 (fun w' => w'.cell? ⟨nL, 0, none⟩ = some (.slice A0 k0 c0) ∧ w'.cell? ⟨nL, 1, none⟩ = some (.slice A1 k1 c1) ∧ w'.cell? ⟨nL, 2, none⟩ = some (.slice A2 k2 c2) ∧ w'.cell? ⟨nL, 3, none⟩ = some (.slice A3 k3 c3) ∧ w'.cell? ⟨nL, 4, none⟩ = some (.slice A4 k4 c4) ∧ w'.cell? ⟨nL, 5, none⟩ = some (.int .i64 t0) ∧ w'.cell? ⟨nL, 6, none⟩ = some (.int .i64 t1) ∧ w'.cell? ⟨nL, 7, none⟩ = some (.int .i64 t2) ∧ w'.cell? ⟨nL, 8, none⟩ = some (.int .i64 t3) ∧ w'.cell? ⟨nL, 9, none⟩ = some (.int .i64 t4) ∧ w'.cell? ⟨nM, 0, none⟩ = some (.int .u8 3) ∧ w'.cell? ⟨nM, 1, none⟩ = some (.int .i64 I8) ∧ w'.cell? ⟨nM, 2, none⟩ = some (.int .i64 0) ∧ w'.cell? ⟨nM, 3, none⟩ = some (.int .i64 n) ∧ w'.cell? ⟨nM, 4, none⟩ = some (.int .i64 aa) ∧ w'.cell? ⟨nM, 5, none⟩ = some (.bool x.wh) ∧ w'.cell? ⟨nM, 6, none⟩ = some (.slice A7 T.length c7)) (first | (with_reducible assumption) | exact s0 | go_keep) (first | (go_at_call 15; (with_reducible refine (HC15.out W.drew HBD.out).mono ?_); rintro e w15 ⟨rfl, hb5⟩; have HB15 : Hid (Below W.heap.size W w15) := HBD.out.trans hb5; have d5 := HSS.out w15 HB15.out; clear hb5) | (go_at_call 16; (with_reducible refine (HC16.out W.drew HBD.out).mono ?_); rintro e w15 ⟨rfl, hb5⟩; have HB15 : Hid (Below W.heap.size W w15) := HBD.out.trans hb5; have d5 := HSS.out w15 HB15.out; clear hb5) | (go_at_call 15; (with_reducible refine (HC15.out w15 HB15.out).mono ?_); rintro e w16 ⟨rfl, hb5⟩; have HB16 : Hid (Below W.heap.size W w16) := HB15.out.trans (hb5.mono HB15.out.size); have d6 := HSS.out w16 HB16.out; clear hb5) | (go_at_call 16; (with_reducible refine (HC16.out w15 HB15.out).mono ?_); rintro e w16 ⟨rfl, hb5⟩; have HB16 : Hid (Below W.heap.size W w16) := HB15.out.trans (hb5.mono HB15.out.size); have d6 := HSS.out w16 HB16.out; clear hb5))
        all_goals clear s0 d5 d6 r0 r1 r2 r3 r4 r5 r6 r7 r8 r9 r10 r11 r12 r13 r14 r15 r16
        all_goals (go_wp2_with fail)
        all_goals go_ret
        all_goals exact ⟨ret_bool (by simp), HEf.out.trans (HB16.out.mono HSW.out)⟩
      · have HMf : Hid (Row (w9.setCell ⟨nM, 4, none⟩ (.int .i64 n)) nM 42 (mcellsR 3 I8 0 dd n x.wh (.slice A7 T.length c7))) := HM9.out.set 4 (.int .i64 n)
        have HRf : Hid (Row (w9.setCell ⟨nM, 4, none⟩ (.int .i64 n)) nL 36 #[.slice A0 k0 c0, .slice A1 k1 c1, .slice A2 k2 c2, .slice A3 k3 c3, .slice A4 k4 c4, .int .i64 t0, .int .i64 t1, .int .i64 t2, .int .i64 t3, .int .i64 t4]) := HR9.out.far (p := ⟨nM, 4, none⟩) (by have := HNL.out; show nL ≠ nM; omega) _
        have HBf : Hid (Below nM w6 (w9.setCell ⟨nM, 4, none⟩ (.int .i64 n))) := HB9.out.setCell (p := ⟨nM, 4, none⟩) (Nat.le_refl _) _
        have HTf : Hid (Rd (w9.setCell ⟨nM, 4, none⟩ (.int .i64 n)) (w9.setCell ⟨nM, 4, none⟩ (.int .i64 n)).heap.size (.slice A7 T.length c7) (ivals T)) := (HTL.out.below HBf.out (Nat.le_refl _)).mono (by have := HMf.out.lt; omega) (fun _ _ => rfl)
        have HLf : Hid (T.length ≤ 1000) := by have := HTN.out; show _ ≤ _; omega
        clear HM9 HR9 HB9
        go_upto_region 21 with (fail)
        clear m0 m1 m2 m3 m4 m5 m6 u3 u4 u6
        generalize w9.setCell ⟨nM, 4, none⟩ (.int .i64 n) = W at *
        obtain ⟨R, hR⟩ : ∃ R, fitsR L T dd n = R := ⟨_, rfl⟩
        have HC15 : Hid (∀ V, Below W.heap.size W V → Calls Try.prog 15 #[vg, .agg (mcellsR 3 I8 0 dd n x.wh (.slice A7 T.length c7))] V (RetL R V)) := fun V hV => by
          have h1 : Below nM w6 V := HBf.out.trans (hV.mono (Nat.le_of_lt HMf.out.lt))
          have h := fits_any V DG vg L A7 c7 T 3 I8 0 dd n x.wh (HG6.out.keep h1 HD6.out.1) (by have := hV.size; have := HMf.out.lt; have := HD6.out; omega) HFT.out (HTf.out.up hV) HLf.out
          rw [fits_eq HTM.out, hR] at h
          exact h
        have HC16 : Hid (∀ V, Below W.heap.size W V → Calls Try.prog 16 #[.agg #[.slice A0 k0 c0, .slice A1 k1 c1, .slice A2 k2 c2, .slice A3 k3 c3, .slice A4 k4 c4, .int .i64 t0, .int .i64 t1, .int .i64 t2, .int .i64 t3, .int .i64 t4], .agg (mcellsR 3 I8 0 dd n x.wh (.slice A7 T.length c7))] V (RetL R V)) := fun V hV => by
          have h1 : Below nM w6 V := HBf.out.trans (hV.mono (Nat.le_of_lt HMf.out.lt))
          have h := refFits_any V DG _ L A7 c7 T 3 I8 0 dd n x.wh (HV6.out.keep h1 HD6.out.1) (by have := hV.size; have := HMf.out.lt; have := HD6.out; omega) HFT.out (HTf.out.up hV) HLf.out
          rw [hR] at h
          exact h
        have HSS : Hid (∀ V, Below W.heap.size W V → V.cell? ⟨nL, 0, none⟩ = some (.slice A0 k0 c0) ∧ V.cell? ⟨nL, 1, none⟩ = some (.slice A1 k1 c1) ∧ V.cell? ⟨nL, 2, none⟩ = some (.slice A2 k2 c2) ∧ V.cell? ⟨nL, 3, none⟩ = some (.slice A3 k3 c3) ∧ V.cell? ⟨nL, 4, none⟩ = some (.slice A4 k4 c4) ∧ V.cell? ⟨nL, 5, none⟩ = some (.int .i64 t0) ∧ V.cell? ⟨nL, 6, none⟩ = some (.int .i64 t1) ∧ V.cell? ⟨nL, 7, none⟩ = some (.int .i64 t2) ∧ V.cell? ⟨nL, 8, none⟩ = some (.int .i64 t3) ∧ V.cell? ⟨nL, 9, none⟩ = some (.int .i64 t4) ∧ V.cell? ⟨nM, 0, none⟩ = some (.int .u8 3) ∧ V.cell? ⟨nM, 1, none⟩ = some (.int .i64 I8) ∧ V.cell? ⟨nM, 2, none⟩ = some (.int .i64 0) ∧ V.cell? ⟨nM, 3, none⟩ = some (.int .i64 dd) ∧ V.cell? ⟨nM, 4, none⟩ = some (.int .i64 n) ∧ V.cell? ⟨nM, 5, none⟩ = some (.bool x.wh) ∧ V.cell? ⟨nM, 6, none⟩ = some (.slice A7 T.length c7)) := fun V hV => ⟨(hV.cell (p := ⟨nL, 0, none⟩) (by have := HMf.out.lt; have := HNL.out; show nL < _; omega)).trans (HRf.out.cell 0), (hV.cell (p := ⟨nL, 1, none⟩) (by have := HMf.out.lt; have := HNL.out; show nL < _; omega)).trans (HRf.out.cell 1), (hV.cell (p := ⟨nL, 2, none⟩) (by have := HMf.out.lt; have := HNL.out; show nL < _; omega)).trans (HRf.out.cell 2), (hV.cell (p := ⟨nL, 3, none⟩) (by have := HMf.out.lt; have := HNL.out; show nL < _; omega)).trans (HRf.out.cell 3), (hV.cell (p := ⟨nL, 4, none⟩) (by have := HMf.out.lt; have := HNL.out; show nL < _; omega)).trans (HRf.out.cell 4), (hV.cell (p := ⟨nL, 5, none⟩) (by have := HMf.out.lt; have := HNL.out; show nL < _; omega)).trans (HRf.out.cell 5), (hV.cell (p := ⟨nL, 6, none⟩) (by have := HMf.out.lt; have := HNL.out; show nL < _; omega)).trans (HRf.out.cell 6), (hV.cell (p := ⟨nL, 7, none⟩) (by have := HMf.out.lt; have := HNL.out; show nL < _; omega)).trans (HRf.out.cell 7), (hV.cell (p := ⟨nL, 8, none⟩) (by have := HMf.out.lt; have := HNL.out; show nL < _; omega)).trans (HRf.out.cell 8), (hV.cell (p := ⟨nL, 9, none⟩) (by have := HMf.out.lt; have := HNL.out; show nL < _; omega)).trans (HRf.out.cell 9), (hV.cell (p := ⟨nM, 0, none⟩) (by have := HMf.out.lt; show nM < _; omega)).trans (HMf.out.cell 0), (hV.cell (p := ⟨nM, 1, none⟩) (by have := HMf.out.lt; show nM < _; omega)).trans (HMf.out.cell 1), (hV.cell (p := ⟨nM, 2, none⟩) (by have := HMf.out.lt; show nM < _; omega)).trans (HMf.out.cell 2), (hV.cell (p := ⟨nM, 3, none⟩) (by have := HMf.out.lt; show nM < _; omega)).trans (HMf.out.cell 3), (hV.cell (p := ⟨nM, 4, none⟩) (by have := HMf.out.lt; show nM < _; omega)).trans (HMf.out.cell 4), (hV.cell (p := ⟨nM, 5, none⟩) (by have := HMf.out.lt; show nM < _; omega)).trans (HMf.out.cell 5), (hV.cell (p := ⟨nM, 6, none⟩) (by have := HMf.out.lt; show nM < _; omega)).trans (HMf.out.cell 6)⟩
        have HBD : Hid (Below W.heap.size W W.drew) := (Below.refl _ _).drew
        have s0 := HSS.out W.drew HBD.out
        have HEf : Hid (Below w.heap.size w W) := HE6.out.trans (HBf.out.mono (by have := HD6.out; omega))
        have HSW : Hid (w.heap.size ≤ W.heap.size) := HEf.out.size
        obtain ⟨r0, r1, r2, r3, r4, r5, r6, r7, r8, r9, r10, r11, r12, r13, r14, r15, r16⟩ := (show _ from s0)
        clear hR
        go_region_held3 (fun w' => w'.cell? ⟨nL, 0, none⟩ = some (.slice A0 k0 c0) ∧ w'.cell? ⟨nL, 1, none⟩ = some (.slice A1 k1 c1) ∧ w'.cell? ⟨nL, 2, none⟩ = some (.slice A2 k2 c2) ∧ w'.cell? ⟨nL, 3, none⟩ = some (.slice A3 k3 c3) ∧ w'.cell? ⟨nL, 4, none⟩ = some (.slice A4 k4 c4) ∧ w'.cell? ⟨nL, 5, none⟩ = some (.int .i64 t0) ∧ w'.cell? ⟨nL, 6, none⟩ = some (.int .i64 t1) ∧ w'.cell? ⟨nL, 7, none⟩ = some (.int .i64 t2) ∧ w'.cell? ⟨nL, 8, none⟩ = some (.int .i64 t3) ∧ w'.cell? ⟨nL, 9, none⟩ = some (.int .i64 t4) ∧ w'.cell? ⟨nM, 0, none⟩ = some (.int .u8 3) ∧ w'.cell? ⟨nM, 1, none⟩ = some (.int .i64 I8) ∧ w'.cell? ⟨nM, 2, none⟩ = some (.int .i64 0) ∧ w'.cell? ⟨nM, 3, none⟩ = some (.int .i64 dd) ∧ w'.cell? ⟨nM, 4, none⟩ = some (.int .i64 n) ∧ w'.cell? ⟨nM, 5, none⟩ = some (.bool x.wh) ∧ w'.cell? ⟨nM, 6, none⟩ = some (.slice A7 T.length c7)) (first | (with_reducible assumption) | exact s0 | go_keep) (first | (go_at_call 15; (with_reducible refine (HC15.out W.drew HBD.out).mono ?_); rintro e w15 ⟨rfl, hb5⟩; have HB15 : Hid (Below W.heap.size W w15) := HBD.out.trans hb5; have d5 := HSS.out w15 HB15.out; clear hb5) | (go_at_call 16; (with_reducible refine (HC16.out W.drew HBD.out).mono ?_); rintro e w15 ⟨rfl, hb5⟩; have HB15 : Hid (Below W.heap.size W w15) := HBD.out.trans hb5; have d5 := HSS.out w15 HB15.out; clear hb5) | (go_at_call 15; (with_reducible refine (HC15.out w15 HB15.out).mono ?_); rintro e w16 ⟨rfl, hb5⟩; have HB16 : Hid (Below W.heap.size W w16) := HB15.out.trans (hb5.mono HB15.out.size); have d6 := HSS.out w16 HB16.out; clear hb5) | (go_at_call 16; (with_reducible refine (HC16.out w15 HB15.out).mono ?_); rintro e w16 ⟨rfl, hb5⟩; have HB16 : Hid (Below W.heap.size W w16) := HB15.out.trans (hb5.mono HB15.out.size); have d6 := HSS.out w16 HB16.out; clear hb5))
        all_goals clear s0 d5 d6 r0 r1 r2 r3 r4 r5 r6 r7 r8 r9 r10 r11 r12 r13 r14 r15 r16
        all_goals (go_wp2_with fail)
        all_goals go_ret
        all_goals exact ⟨ret_bool (by simp), HEf.out.trans (HB16.out.mono HSW.out)⟩
      · have HT9 : Hid (Rd w9 w9.heap.size (.slice A7 T.length c7) (ivals T)) := (HTL.out.below HB9.out (Nat.le_refl _)).mono (by have := HN9.out; omega) (fun _ _ => rfl)
        obtain ⟨i3, hi3, hz30, hz31, hz32⟩ := info_parts Try.info3n
        have HSN : Hid (ivals T ++ [.int .i64 n] = ivals (T ++ [n]) ∧ (T ++ [n]).length = T.length + 1) := ⟨ivals_snoc' T n, by simp⟩
        obtain ⟨U, hU⟩ : ∃ U, T ++ [n] = U := ⟨_, rfl⟩
        rw [hU] at HSN
        have HLf : Hid (U.length ≤ 1000) := by have := HTN.out; have := HSN.out.2; show _ ≤ _; omega
        clear hU
        have hTl : T.length ≤ 5 := HTN.out
        go_wp2_with (first
          | (at_builtin; refine wpList_app_rd rfl (.const (.slice none 0 0)) (.tmp 61) 40 rfl n9 3 i3 (.int .i64 0) Try.underlying40 hi3 hz30 hz31 hz32 rfl _ 0 [] rfl (World.ownsRow_nil _ _ _ _) _ T rfl HT9.out (by omega) (by have := HN9.out; omega) ?_; intro v1 w1 hown1 hgrow1; have HO1 : Hid (w1.ownsRow n9 3 1 v1 T.length (ivals T)) := (by have h := hown1; simp only [Nat.zero_add, List.nil_append] at h; exact h); have HB1 : Hid (Below n9 w9 w1) := (Below.refl _ _).grown hgrow1 (by have := HN9.out; omega) (fun j hj => by cases hj); clear hown1 hgrow1)
          | (at_builtin; refine wpList_append_own _ rfl (.tmp 62) (.tmp 64) 40 rfl n9 3 i3 (.int .i64 0) 1 8 Try.underlying40 hi3 hz30 hz31 hz32 rfl (by decide) _ _ _ rfl (HO1.out.alloc _) ⟨w1.heap.size, 0, none⟩ 1 1 [.int .i64 n] rfl rfl (one_new w1 3 _) (one_cell rfl) (by unfold maxLen; omega) (by omega) (by have := HB1.out.size; have := HN9.out; simp; omega) ?_; intro v7 w10 hown7 hgrow7 _; have HB10 : Hid (Below n9 w9 w10) := (HB1.out.alloc (by have := HB1.out.size; have := HN9.out; omega) _).grown hgrow7 (by have := HB1.out.size; have := HN9.out; simp; omega) (fun j hj => (HO1.out.lt j hj).1); have HO10 := Lib.hid hown7; rw [HSN.out.1, ← HSN.out.2] at HO10; obtain ⟨AU, cU, hvU⟩ := own_slice HO10.out; subst hvU; clear hown7 hgrow7 HO1 HB1; have mm6 := (Below.row HB10.out HM9.out HN9.out.2).cell 6; have uu6 := (Below.row HB10.out HM9.out HN9.out.2).frozen 6; simp only [List.getElem?_toArray, List.getElem?_cons_zero, List.getElem?_cons_succ] at mm6)
          | fail)
        have HM10 : Hid (Row w10 nM 42 (mcellsR 3 I8 0 dd aa x.wh (.slice A7 T.length c7))) := Below.row HB10.out HM9.out HN9.out.2
        have HR10 : Hid (Row w10 nL 36 #[.slice A0 k0 c0, .slice A1 k1 c1, .slice A2 k2 c2, .slice A3 k3 c3, .slice A4 k4 c4, .int .i64 t0, .int .i64 t1, .int .i64 t2, .int .i64 t3, .int .i64 t4]) := Below.row HB10.out HR9.out (by have := HNL.out; have := HN9.out; omega)
        clear m0 m1 m2 m3 m4 m5 m6 u3 u4 u6 mm6 uu6
        have HMf : Hid (Row (w10.setCell ⟨nM, 6, none⟩ (.slice AU U.length cU)) nM 42 (mcellsR 3 I8 0 dd aa x.wh (.slice AU U.length cU))) := HM10.out.set 6 (.slice AU U.length cU)
        have HRf : Hid (Row (w10.setCell ⟨nM, 6, none⟩ (.slice AU U.length cU)) nL 36 #[.slice A0 k0 c0, .slice A1 k1 c1, .slice A2 k2 c2, .slice A3 k3 c3, .slice A4 k4 c4, .int .i64 t0, .int .i64 t1, .int .i64 t2, .int .i64 t3, .int .i64 t4]) := HR10.out.far (p := ⟨nM, 6, none⟩) (by have := HNL.out; show nL ≠ nM; omega) _
        have HBf : Hid (Below nM w6 (w10.setCell ⟨nM, 6, none⟩ (.slice AU U.length cU))) := (HB9.out.trans (HB10.out.mono (Nat.le_of_lt HN9.out.2))).setCell (p := ⟨nM, 6, none⟩) (Nat.le_refl _) _
        have HTf : Hid (Rd (w10.setCell ⟨nM, 6, none⟩ (.slice AU U.length cU)) (w10.setCell ⟨nM, 6, none⟩ (.slice AU U.length cU)).heap.size (.slice AU U.length cU) (ivals U)) := Rd.of_own (own_far HO10.out (a := ⟨nM, 6, none⟩) (fun e => by have h1 := (HO10.out.lt _ e).1; have h2 := HN9.out.2; simp at h1; omega) _)
        clear HM9 HR9 HB9 HM10 HR10 HB10 HO10
        go_upto_region 21 with (fail)
        generalize w10.setCell ⟨nM, 6, none⟩ (.slice AU U.length cU) = W at *
        obtain ⟨R, hR⟩ : ∃ R, fitsR L U dd aa = R := ⟨_, rfl⟩
        have HC15 : Hid (∀ V, Below W.heap.size W V → Calls Try.prog 15 #[vg, .agg (mcellsR 3 I8 0 dd aa x.wh (.slice AU U.length cU))] V (RetL R V)) := fun V hV => by
          have h1 : Below nM w6 V := HBf.out.trans (hV.mono (Nat.le_of_lt HMf.out.lt))
          have h := fits_any V DG vg L AU cU U 3 I8 0 dd aa x.wh (HG6.out.keep h1 HD6.out.1) (by have := hV.size; have := HMf.out.lt; have := HD6.out; omega) HFT.out (HTf.out.up hV) HLf.out
          rw [fits_eq HTM.out, hR] at h
          exact h
        have HC16 : Hid (∀ V, Below W.heap.size W V → Calls Try.prog 16 #[.agg #[.slice A0 k0 c0, .slice A1 k1 c1, .slice A2 k2 c2, .slice A3 k3 c3, .slice A4 k4 c4, .int .i64 t0, .int .i64 t1, .int .i64 t2, .int .i64 t3, .int .i64 t4], .agg (mcellsR 3 I8 0 dd aa x.wh (.slice AU U.length cU))] V (RetL R V)) := fun V hV => by
          have h1 : Below nM w6 V := HBf.out.trans (hV.mono (Nat.le_of_lt HMf.out.lt))
          have h := refFits_any V DG _ L AU cU U 3 I8 0 dd aa x.wh (HV6.out.keep h1 HD6.out.1) (by have := hV.size; have := HMf.out.lt; have := HD6.out; omega) HFT.out (HTf.out.up hV) HLf.out
          rw [hR] at h
          exact h
        have HSS : Hid (∀ V, Below W.heap.size W V → V.cell? ⟨nL, 0, none⟩ = some (.slice A0 k0 c0) ∧ V.cell? ⟨nL, 1, none⟩ = some (.slice A1 k1 c1) ∧ V.cell? ⟨nL, 2, none⟩ = some (.slice A2 k2 c2) ∧ V.cell? ⟨nL, 3, none⟩ = some (.slice A3 k3 c3) ∧ V.cell? ⟨nL, 4, none⟩ = some (.slice A4 k4 c4) ∧ V.cell? ⟨nL, 5, none⟩ = some (.int .i64 t0) ∧ V.cell? ⟨nL, 6, none⟩ = some (.int .i64 t1) ∧ V.cell? ⟨nL, 7, none⟩ = some (.int .i64 t2) ∧ V.cell? ⟨nL, 8, none⟩ = some (.int .i64 t3) ∧ V.cell? ⟨nL, 9, none⟩ = some (.int .i64 t4) ∧ V.cell? ⟨nM, 0, none⟩ = some (.int .u8 3) ∧ V.cell? ⟨nM, 1, none⟩ = some (.int .i64 I8) ∧ V.cell? ⟨nM, 2, none⟩ = some (.int .i64 0) ∧ V.cell? ⟨nM, 3, none⟩ = some (.int .i64 dd) ∧ V.cell? ⟨nM, 4, none⟩ = some (.int .i64 aa) ∧ V.cell? ⟨nM, 5, none⟩ = some (.bool x.wh) ∧ V.cell? ⟨nM, 6, none⟩ = some (.slice AU U.length cU)) := fun V hV => ⟨(hV.cell (p := ⟨nL, 0, none⟩) (by have := HMf.out.lt; have := HNL.out; show nL < _; omega)).trans (HRf.out.cell 0), (hV.cell (p := ⟨nL, 1, none⟩) (by have := HMf.out.lt; have := HNL.out; show nL < _; omega)).trans (HRf.out.cell 1), (hV.cell (p := ⟨nL, 2, none⟩) (by have := HMf.out.lt; have := HNL.out; show nL < _; omega)).trans (HRf.out.cell 2), (hV.cell (p := ⟨nL, 3, none⟩) (by have := HMf.out.lt; have := HNL.out; show nL < _; omega)).trans (HRf.out.cell 3), (hV.cell (p := ⟨nL, 4, none⟩) (by have := HMf.out.lt; have := HNL.out; show nL < _; omega)).trans (HRf.out.cell 4), (hV.cell (p := ⟨nL, 5, none⟩) (by have := HMf.out.lt; have := HNL.out; show nL < _; omega)).trans (HRf.out.cell 5), (hV.cell (p := ⟨nL, 6, none⟩) (by have := HMf.out.lt; have := HNL.out; show nL < _; omega)).trans (HRf.out.cell 6), (hV.cell (p := ⟨nL, 7, none⟩) (by have := HMf.out.lt; have := HNL.out; show nL < _; omega)).trans (HRf.out.cell 7), (hV.cell (p := ⟨nL, 8, none⟩) (by have := HMf.out.lt; have := HNL.out; show nL < _; omega)).trans (HRf.out.cell 8), (hV.cell (p := ⟨nL, 9, none⟩) (by have := HMf.out.lt; have := HNL.out; show nL < _; omega)).trans (HRf.out.cell 9), (hV.cell (p := ⟨nM, 0, none⟩) (by have := HMf.out.lt; show nM < _; omega)).trans (HMf.out.cell 0), (hV.cell (p := ⟨nM, 1, none⟩) (by have := HMf.out.lt; show nM < _; omega)).trans (HMf.out.cell 1), (hV.cell (p := ⟨nM, 2, none⟩) (by have := HMf.out.lt; show nM < _; omega)).trans (HMf.out.cell 2), (hV.cell (p := ⟨nM, 3, none⟩) (by have := HMf.out.lt; show nM < _; omega)).trans (HMf.out.cell 3), (hV.cell (p := ⟨nM, 4, none⟩) (by have := HMf.out.lt; show nM < _; omega)).trans (HMf.out.cell 4), (hV.cell (p := ⟨nM, 5, none⟩) (by have := HMf.out.lt; show nM < _; omega)).trans (HMf.out.cell 5), (hV.cell (p := ⟨nM, 6, none⟩) (by have := HMf.out.lt; show nM < _; omega)).trans (HMf.out.cell 6)⟩
        have HBD : Hid (Below W.heap.size W W.drew) := (Below.refl _ _).drew
        have s0 := HSS.out W.drew HBD.out
        have HEf : Hid (Below w.heap.size w W) := HE6.out.trans (HBf.out.mono (by have := HD6.out; omega))
        have HSW : Hid (w.heap.size ≤ W.heap.size) := HEf.out.size
        obtain ⟨r0, r1, r2, r3, r4, r5, r6, r7, r8, r9, r10, r11, r12, r13, r14, r15, r16⟩ := (show _ from s0)
        clear hR
        go_region_held3 (fun w' => w'.cell? ⟨nL, 0, none⟩ = some (.slice A0 k0 c0) ∧ w'.cell? ⟨nL, 1, none⟩ = some (.slice A1 k1 c1) ∧ w'.cell? ⟨nL, 2, none⟩ = some (.slice A2 k2 c2) ∧ w'.cell? ⟨nL, 3, none⟩ = some (.slice A3 k3 c3) ∧ w'.cell? ⟨nL, 4, none⟩ = some (.slice A4 k4 c4) ∧ w'.cell? ⟨nL, 5, none⟩ = some (.int .i64 t0) ∧ w'.cell? ⟨nL, 6, none⟩ = some (.int .i64 t1) ∧ w'.cell? ⟨nL, 7, none⟩ = some (.int .i64 t2) ∧ w'.cell? ⟨nL, 8, none⟩ = some (.int .i64 t3) ∧ w'.cell? ⟨nL, 9, none⟩ = some (.int .i64 t4) ∧ w'.cell? ⟨nM, 0, none⟩ = some (.int .u8 3) ∧ w'.cell? ⟨nM, 1, none⟩ = some (.int .i64 I8) ∧ w'.cell? ⟨nM, 2, none⟩ = some (.int .i64 0) ∧ w'.cell? ⟨nM, 3, none⟩ = some (.int .i64 dd) ∧ w'.cell? ⟨nM, 4, none⟩ = some (.int .i64 aa) ∧ w'.cell? ⟨nM, 5, none⟩ = some (.bool x.wh) ∧ w'.cell? ⟨nM, 6, none⟩ = some (.slice AU U.length cU)) (first | (with_reducible assumption) | exact s0 | go_keep) (first | (go_at_call 15; (with_reducible refine (HC15.out W.drew HBD.out).mono ?_); rintro e w15 ⟨rfl, hb5⟩; have HB15 : Hid (Below W.heap.size W w15) := HBD.out.trans hb5; have d5 := HSS.out w15 HB15.out; clear hb5) | (go_at_call 16; (with_reducible refine (HC16.out W.drew HBD.out).mono ?_); rintro e w15 ⟨rfl, hb5⟩; have HB15 : Hid (Below W.heap.size W w15) := HBD.out.trans hb5; have d5 := HSS.out w15 HB15.out; clear hb5) | (go_at_call 15; (with_reducible refine (HC15.out w15 HB15.out).mono ?_); rintro e w16 ⟨rfl, hb5⟩; have HB16 : Hid (Below W.heap.size W w16) := HB15.out.trans (hb5.mono HB15.out.size); have d6 := HSS.out w16 HB16.out; clear hb5) | (go_at_call 16; (with_reducible refine (HC16.out w15 HB15.out).mono ?_); rintro e w16 ⟨rfl, hb5⟩; have HB16 : Hid (Below W.heap.size W w16) := HB15.out.trans (hb5.mono HB15.out.size); have d6 := HSS.out w16 HB16.out; clear hb5))
        all_goals clear s0 d5 d6 r0 r1 r2 r3 r4 r5 r6 r7 r8 r9 r10 r11 r12 r13 r14 r15 r16
        all_goals (go_wp2_with fail)
        all_goals go_ret
        all_goals exact ⟨ret_bool (by simp), HEf.out.trans (HB16.out.mono HSW.out)⟩
      · have HT9 : Hid (Rd w9 w9.heap.size (.slice A7 T.length c7) (ivals T)) := (HTL.out.below HB9.out (Nat.le_refl _)).mono (by have := HN9.out; omega) (fun _ _ => rfl)
        obtain ⟨i3, hi3, hz30, hz31, hz32⟩ := info_parts Try.info3n
        obtain ⟨r, hr⟩ : ∃ r, n.tmod 10 = r := ⟨_, rfl⟩
        have hrb : -10 < r ∧ r < 10 := by
          rcases Int.le_total 0 n with h | h
          · rw [← hr, Int.tmod_eq_emod_of_nonneg h]; omega
          · have e : n.tmod 10 = -((-n).tmod 10) := by rw [← Int.neg_tmod]; simp
            rw [← hr, e, Int.tmod_eq_emod_of_nonneg (by omega)]; omega
        have hrw : IntKind.i64.wrap r = r := IntWalk.i64_in _ (by omega)
        have HSN : Hid (ivals [r] ++ ivals T = ivals ([r] ++ T) ∧ ([r] ++ T).length = 1 + T.length) := ⟨ivals_app _ _, by simp; omega⟩
        obtain ⟨U, hU⟩ : ∃ U, [r] ++ T = U := ⟨_, rfl⟩
        have HLf : Hid (U.length ≤ 1000) := by have := HTN.out; have := HSN.out.2; rw [hU] at this; show _ ≤ _; omega
        have hTl : T.length ≤ 5 := HTN.out
        have HBA : Hid (Below n9 w9 (w9.alloc (.cells #[.int .i64 r] 3))) := (Below.refl _ _).alloc (by have := HN9.out; omega) _
        have HOA : Hid ((w9.alloc (.cells #[.int .i64 r] 3)).ownsRow n9 3 1 (.slice (some ⟨w9.heap.size, 0, none⟩) 1 1) 1 (ivals [r])) := ⟨by simp [ivals], Or.inr ⟨w9.heap.size, 1, #[.int .i64 r], rfl, by have := HN9.out; omega, Row.new w9 3 #[.int .i64 r], Nat.le_refl _, by unfold maxLen; omega, rfl, rfl⟩⟩
        have HTA : Hid (Rd (w9.alloc (.cells #[.int .i64 r] 3)) (w9.alloc (.cells #[.int .i64 r] 3)).heap.size (.slice A7 T.length c7) (ivals T)) := HT9.out.up ((Below.refl w9.heap.size w9).alloc (Nat.le_refl _) _)
        have am6 := (Below.row HBA.out HM9.out HN9.out.2).cell 6
        simp only [List.getElem?_toArray, List.getElem?_cons_zero, List.getElem?_cons_succ] at am6
        go_wp2_with (first
          | (at_builtin; refine wpList_app_rd rfl (.tmp 71) (.tmp 73) 40 rfl n9 3 i3 (.int .i64 0) Try.underlying40 hi3 hz30 hz31 hz32 rfl _ 1 [r] rfl HOA.out _ T rfl HTA.out (by omega) (by have := HN9.out; simp; omega) ?_; intro v7 w10 hown7 hgrow7; have HB10 : Hid (Below n9 w9 w10) := HBA.out.grown hgrow7 (by have := HN9.out; simp; omega) (fun j hj => (HOA.out.lt j hj).1); have HO10 := Lib.hid hown7; rw [← HSN.out.2, hU] at HO10; obtain ⟨AU, cU, hvU⟩ := own_slice HO10.out; subst hvU; clear hown7 hgrow7; have mm6 := (Below.row HB10.out HM9.out HN9.out.2).cell 6; have uu6 := (Below.row HB10.out HM9.out HN9.out.2).frozen 6; simp only [List.getElem?_toArray, List.getElem?_cons_zero, List.getElem?_cons_succ] at mm6)
          | fail)
        clear am6 HBA HOA HTA hU
        have HM10 : Hid (Row w10 nM 42 (mcellsR 3 I8 0 dd aa x.wh (.slice A7 T.length c7))) := Below.row HB10.out HM9.out HN9.out.2
        have HR10 : Hid (Row w10 nL 36 #[.slice A0 k0 c0, .slice A1 k1 c1, .slice A2 k2 c2, .slice A3 k3 c3, .slice A4 k4 c4, .int .i64 t0, .int .i64 t1, .int .i64 t2, .int .i64 t3, .int .i64 t4]) := Below.row HB10.out HR9.out (by have := HNL.out; have := HN9.out; omega)
        clear m0 m1 m2 m3 m4 m5 m6 u3 u4 u6 mm6 uu6
        have HMf : Hid (Row (w10.setCell ⟨nM, 6, none⟩ (.slice AU U.length cU)) nM 42 (mcellsR 3 I8 0 dd aa x.wh (.slice AU U.length cU))) := HM10.out.set 6 (.slice AU U.length cU)
        have HRf : Hid (Row (w10.setCell ⟨nM, 6, none⟩ (.slice AU U.length cU)) nL 36 #[.slice A0 k0 c0, .slice A1 k1 c1, .slice A2 k2 c2, .slice A3 k3 c3, .slice A4 k4 c4, .int .i64 t0, .int .i64 t1, .int .i64 t2, .int .i64 t3, .int .i64 t4]) := HR10.out.far (p := ⟨nM, 6, none⟩) (by have := HNL.out; show nL ≠ nM; omega) _
        have HBf : Hid (Below nM w6 (w10.setCell ⟨nM, 6, none⟩ (.slice AU U.length cU))) := (HB9.out.trans (HB10.out.mono (Nat.le_of_lt HN9.out.2))).setCell (p := ⟨nM, 6, none⟩) (Nat.le_refl _) _
        have HTf : Hid (Rd (w10.setCell ⟨nM, 6, none⟩ (.slice AU U.length cU)) (w10.setCell ⟨nM, 6, none⟩ (.slice AU U.length cU)).heap.size (.slice AU U.length cU) (ivals U)) := Rd.of_own (own_far HO10.out (a := ⟨nM, 6, none⟩) (fun e => by have h1 := (HO10.out.lt _ e).1; have h2 := HN9.out.2; simp at h1; omega) _)
        clear HM9 HR9 HB9 HM10 HR10 HB10 HO10
        go_upto_region 21 with (fail)
        generalize w10.setCell ⟨nM, 6, none⟩ (.slice AU U.length cU) = W at *
        obtain ⟨R, hR⟩ : ∃ R, fitsR L U dd aa = R := ⟨_, rfl⟩
        have HC15 : Hid (∀ V, Below W.heap.size W V → Calls Try.prog 15 #[vg, .agg (mcellsR 3 I8 0 dd aa x.wh (.slice AU U.length cU))] V (RetL R V)) := fun V hV => by
          have h1 : Below nM w6 V := HBf.out.trans (hV.mono (Nat.le_of_lt HMf.out.lt))
          have h := fits_any V DG vg L AU cU U 3 I8 0 dd aa x.wh (HG6.out.keep h1 HD6.out.1) (by have := hV.size; have := HMf.out.lt; have := HD6.out; omega) HFT.out (HTf.out.up hV) HLf.out
          rw [fits_eq HTM.out, hR] at h
          exact h
        have HC16 : Hid (∀ V, Below W.heap.size W V → Calls Try.prog 16 #[.agg #[.slice A0 k0 c0, .slice A1 k1 c1, .slice A2 k2 c2, .slice A3 k3 c3, .slice A4 k4 c4, .int .i64 t0, .int .i64 t1, .int .i64 t2, .int .i64 t3, .int .i64 t4], .agg (mcellsR 3 I8 0 dd aa x.wh (.slice AU U.length cU))] V (RetL R V)) := fun V hV => by
          have h1 : Below nM w6 V := HBf.out.trans (hV.mono (Nat.le_of_lt HMf.out.lt))
          have h := refFits_any V DG _ L AU cU U 3 I8 0 dd aa x.wh (HV6.out.keep h1 HD6.out.1) (by have := hV.size; have := HMf.out.lt; have := HD6.out; omega) HFT.out (HTf.out.up hV) HLf.out
          rw [hR] at h
          exact h
        have HSS : Hid (∀ V, Below W.heap.size W V → V.cell? ⟨nL, 0, none⟩ = some (.slice A0 k0 c0) ∧ V.cell? ⟨nL, 1, none⟩ = some (.slice A1 k1 c1) ∧ V.cell? ⟨nL, 2, none⟩ = some (.slice A2 k2 c2) ∧ V.cell? ⟨nL, 3, none⟩ = some (.slice A3 k3 c3) ∧ V.cell? ⟨nL, 4, none⟩ = some (.slice A4 k4 c4) ∧ V.cell? ⟨nL, 5, none⟩ = some (.int .i64 t0) ∧ V.cell? ⟨nL, 6, none⟩ = some (.int .i64 t1) ∧ V.cell? ⟨nL, 7, none⟩ = some (.int .i64 t2) ∧ V.cell? ⟨nL, 8, none⟩ = some (.int .i64 t3) ∧ V.cell? ⟨nL, 9, none⟩ = some (.int .i64 t4) ∧ V.cell? ⟨nM, 0, none⟩ = some (.int .u8 3) ∧ V.cell? ⟨nM, 1, none⟩ = some (.int .i64 I8) ∧ V.cell? ⟨nM, 2, none⟩ = some (.int .i64 0) ∧ V.cell? ⟨nM, 3, none⟩ = some (.int .i64 dd) ∧ V.cell? ⟨nM, 4, none⟩ = some (.int .i64 aa) ∧ V.cell? ⟨nM, 5, none⟩ = some (.bool x.wh) ∧ V.cell? ⟨nM, 6, none⟩ = some (.slice AU U.length cU)) := fun V hV => ⟨(hV.cell (p := ⟨nL, 0, none⟩) (by have := HMf.out.lt; have := HNL.out; show nL < _; omega)).trans (HRf.out.cell 0), (hV.cell (p := ⟨nL, 1, none⟩) (by have := HMf.out.lt; have := HNL.out; show nL < _; omega)).trans (HRf.out.cell 1), (hV.cell (p := ⟨nL, 2, none⟩) (by have := HMf.out.lt; have := HNL.out; show nL < _; omega)).trans (HRf.out.cell 2), (hV.cell (p := ⟨nL, 3, none⟩) (by have := HMf.out.lt; have := HNL.out; show nL < _; omega)).trans (HRf.out.cell 3), (hV.cell (p := ⟨nL, 4, none⟩) (by have := HMf.out.lt; have := HNL.out; show nL < _; omega)).trans (HRf.out.cell 4), (hV.cell (p := ⟨nL, 5, none⟩) (by have := HMf.out.lt; have := HNL.out; show nL < _; omega)).trans (HRf.out.cell 5), (hV.cell (p := ⟨nL, 6, none⟩) (by have := HMf.out.lt; have := HNL.out; show nL < _; omega)).trans (HRf.out.cell 6), (hV.cell (p := ⟨nL, 7, none⟩) (by have := HMf.out.lt; have := HNL.out; show nL < _; omega)).trans (HRf.out.cell 7), (hV.cell (p := ⟨nL, 8, none⟩) (by have := HMf.out.lt; have := HNL.out; show nL < _; omega)).trans (HRf.out.cell 8), (hV.cell (p := ⟨nL, 9, none⟩) (by have := HMf.out.lt; have := HNL.out; show nL < _; omega)).trans (HRf.out.cell 9), (hV.cell (p := ⟨nM, 0, none⟩) (by have := HMf.out.lt; show nM < _; omega)).trans (HMf.out.cell 0), (hV.cell (p := ⟨nM, 1, none⟩) (by have := HMf.out.lt; show nM < _; omega)).trans (HMf.out.cell 1), (hV.cell (p := ⟨nM, 2, none⟩) (by have := HMf.out.lt; show nM < _; omega)).trans (HMf.out.cell 2), (hV.cell (p := ⟨nM, 3, none⟩) (by have := HMf.out.lt; show nM < _; omega)).trans (HMf.out.cell 3), (hV.cell (p := ⟨nM, 4, none⟩) (by have := HMf.out.lt; show nM < _; omega)).trans (HMf.out.cell 4), (hV.cell (p := ⟨nM, 5, none⟩) (by have := HMf.out.lt; show nM < _; omega)).trans (HMf.out.cell 5), (hV.cell (p := ⟨nM, 6, none⟩) (by have := HMf.out.lt; show nM < _; omega)).trans (HMf.out.cell 6)⟩
        have HBD : Hid (Below W.heap.size W W.drew) := (Below.refl _ _).drew
        have s0 := HSS.out W.drew HBD.out
        have HEf : Hid (Below w.heap.size w W) := HE6.out.trans (HBf.out.mono (by have := HD6.out; omega))
        have HSW : Hid (w.heap.size ≤ W.heap.size) := HEf.out.size
        obtain ⟨r0, r1, r2, r3, r4, r5, r6, r7, r8, r9, r10, r11, r12, r13, r14, r15, r16⟩ := (show _ from s0)
        clear hR
        go_region_held3 (fun w' => w'.cell? ⟨nL, 0, none⟩ = some (.slice A0 k0 c0) ∧ w'.cell? ⟨nL, 1, none⟩ = some (.slice A1 k1 c1) ∧ w'.cell? ⟨nL, 2, none⟩ = some (.slice A2 k2 c2) ∧ w'.cell? ⟨nL, 3, none⟩ = some (.slice A3 k3 c3) ∧ w'.cell? ⟨nL, 4, none⟩ = some (.slice A4 k4 c4) ∧ w'.cell? ⟨nL, 5, none⟩ = some (.int .i64 t0) ∧ w'.cell? ⟨nL, 6, none⟩ = some (.int .i64 t1) ∧ w'.cell? ⟨nL, 7, none⟩ = some (.int .i64 t2) ∧ w'.cell? ⟨nL, 8, none⟩ = some (.int .i64 t3) ∧ w'.cell? ⟨nL, 9, none⟩ = some (.int .i64 t4) ∧ w'.cell? ⟨nM, 0, none⟩ = some (.int .u8 3) ∧ w'.cell? ⟨nM, 1, none⟩ = some (.int .i64 I8) ∧ w'.cell? ⟨nM, 2, none⟩ = some (.int .i64 0) ∧ w'.cell? ⟨nM, 3, none⟩ = some (.int .i64 dd) ∧ w'.cell? ⟨nM, 4, none⟩ = some (.int .i64 aa) ∧ w'.cell? ⟨nM, 5, none⟩ = some (.bool x.wh) ∧ w'.cell? ⟨nM, 6, none⟩ = some (.slice AU U.length cU)) (first | (with_reducible assumption) | exact s0 | go_keep) (first | (go_at_call 15; (with_reducible refine (HC15.out W.drew HBD.out).mono ?_); rintro e w15 ⟨rfl, hb5⟩; have HB15 : Hid (Below W.heap.size W w15) := HBD.out.trans hb5; have d5 := HSS.out w15 HB15.out; clear hb5) | (go_at_call 16; (with_reducible refine (HC16.out W.drew HBD.out).mono ?_); rintro e w15 ⟨rfl, hb5⟩; have HB15 : Hid (Below W.heap.size W w15) := HBD.out.trans hb5; have d5 := HSS.out w15 HB15.out; clear hb5) | (go_at_call 15; (with_reducible refine (HC15.out w15 HB15.out).mono ?_); rintro e w16 ⟨rfl, hb5⟩; have HB16 : Hid (Below W.heap.size W w16) := HB15.out.trans (hb5.mono HB15.out.size); have d6 := HSS.out w16 HB16.out; clear hb5) | (go_at_call 16; (with_reducible refine (HC16.out w15 HB15.out).mono ?_); rintro e w16 ⟨rfl, hb5⟩; have HB16 : Hid (Below W.heap.size W w16) := HB15.out.trans (hb5.mono HB15.out.size); have d6 := HSS.out w16 HB16.out; clear hb5))
        all_goals clear s0 d5 d6 r0 r1 r2 r3 r4 r5 r6 r7 r8 r9 r10 r11 r12 r13 r14 r15 r16
        all_goals (go_wp2_with fail)
        all_goals go_ret
        all_goals exact ⟨ret_bool (by simp), HEf.out.trans (HB16.out.mono HSW.out)⟩
      · have HT9 : Hid (Rd w9 w9.heap.size (.slice A7 T.length c7) (ivals T)) := (HTL.out.below HB9.out (Nat.le_refl _)).mono (by have := HN9.out; omega) (fun _ _ => rfl)
        have HBK := Lib.hid (refBack_any w9 A7 c7 T HT9.out (by have := HTN.out; omega))
        obtain ⟨U, hU⟩ : ∃ U, T.reverse = U := ⟨_, rfl⟩
        have HLf : Hid (U.length ≤ 1000) := by have := HTN.out; show _ ≤ _; rw [← hU, List.length_reverse]; omega
        rw [hU, HN9.out.1] at HBK
        clear hU HT9
        go_wp2_with fail
        refine HBK.out.mono ?_; rintro e w10 ⟨vU, rfl, ho, hb⟩
        obtain ⟨AU, cU, hvU⟩ := own_slice ho
        subst hvU
        have HB10 := Lib.hid hb
        have HO10 := Lib.hid ho
        clear hb ho HBK
        have HM10 : Hid (Row w10 nM 42 (mcellsR 3 I8 0 dd aa x.wh (.slice A7 T.length c7))) := Below.row HB10.out HM9.out HN9.out.2
        have HR10 : Hid (Row w10 nL 36 #[.slice A0 k0 c0, .slice A1 k1 c1, .slice A2 k2 c2, .slice A3 k3 c3, .slice A4 k4 c4, .int .i64 t0, .int .i64 t1, .int .i64 t2, .int .i64 t3, .int .i64 t4]) := Below.row HB10.out HR9.out (by have := HNL.out; have := HN9.out; omega)
        clear m0 m1 m2 m3 m4 m5 m6 u3 u4 u6
        have m6 := HM10.out.cell 6; have u6 := HM10.out.frozen 6
        simp only [List.getElem?_toArray, List.getElem?_cons_zero, List.getElem?_cons_succ] at m6
        have HMf : Hid (Row (w10.setCell ⟨nM, 6, none⟩ (.slice AU U.length cU)) nM 42 (mcellsR 3 I8 0 dd aa x.wh (.slice AU U.length cU))) := HM10.out.set 6 (.slice AU U.length cU)
        have HRf : Hid (Row (w10.setCell ⟨nM, 6, none⟩ (.slice AU U.length cU)) nL 36 #[.slice A0 k0 c0, .slice A1 k1 c1, .slice A2 k2 c2, .slice A3 k3 c3, .slice A4 k4 c4, .int .i64 t0, .int .i64 t1, .int .i64 t2, .int .i64 t3, .int .i64 t4]) := HR10.out.far (p := ⟨nM, 6, none⟩) (by have := HNL.out; show nL ≠ nM; omega) _
        have HBf : Hid (Below nM w6 (w10.setCell ⟨nM, 6, none⟩ (.slice AU U.length cU))) := (HB9.out.trans (HB10.out.mono (Nat.le_of_lt HN9.out.2))).setCell (p := ⟨nM, 6, none⟩) (Nat.le_refl _) _
        have HTf : Hid (Rd (w10.setCell ⟨nM, 6, none⟩ (.slice AU U.length cU)) (w10.setCell ⟨nM, 6, none⟩ (.slice AU U.length cU)).heap.size (.slice AU U.length cU) (ivals U)) := Rd.of_own (own_far HO10.out (a := ⟨nM, 6, none⟩) (fun e => by have h1 := (HO10.out.lt _ e).1; have h2 := HN9.out.2; simp at h1; omega) _)
        clear HM9 HR9 HB9 HM10 HR10 HB10 HO10
        go_upto_region 21 with (fail)
        generalize w10.setCell ⟨nM, 6, none⟩ (.slice AU U.length cU) = W at *
        obtain ⟨R, hR⟩ : ∃ R, fitsR L U dd aa = R := ⟨_, rfl⟩
        have HC15 : Hid (∀ V, Below W.heap.size W V → Calls Try.prog 15 #[vg, .agg (mcellsR 3 I8 0 dd aa x.wh (.slice AU U.length cU))] V (RetL R V)) := fun V hV => by
          have h1 : Below nM w6 V := HBf.out.trans (hV.mono (Nat.le_of_lt HMf.out.lt))
          have h := fits_any V DG vg L AU cU U 3 I8 0 dd aa x.wh (HG6.out.keep h1 HD6.out.1) (by have := hV.size; have := HMf.out.lt; have := HD6.out; omega) HFT.out (HTf.out.up hV) HLf.out
          rw [fits_eq HTM.out, hR] at h
          exact h
        have HC16 : Hid (∀ V, Below W.heap.size W V → Calls Try.prog 16 #[.agg #[.slice A0 k0 c0, .slice A1 k1 c1, .slice A2 k2 c2, .slice A3 k3 c3, .slice A4 k4 c4, .int .i64 t0, .int .i64 t1, .int .i64 t2, .int .i64 t3, .int .i64 t4], .agg (mcellsR 3 I8 0 dd aa x.wh (.slice AU U.length cU))] V (RetL R V)) := fun V hV => by
          have h1 : Below nM w6 V := HBf.out.trans (hV.mono (Nat.le_of_lt HMf.out.lt))
          have h := refFits_any V DG _ L AU cU U 3 I8 0 dd aa x.wh (HV6.out.keep h1 HD6.out.1) (by have := hV.size; have := HMf.out.lt; have := HD6.out; omega) HFT.out (HTf.out.up hV) HLf.out
          rw [hR] at h
          exact h
        have HSS : Hid (∀ V, Below W.heap.size W V → V.cell? ⟨nL, 0, none⟩ = some (.slice A0 k0 c0) ∧ V.cell? ⟨nL, 1, none⟩ = some (.slice A1 k1 c1) ∧ V.cell? ⟨nL, 2, none⟩ = some (.slice A2 k2 c2) ∧ V.cell? ⟨nL, 3, none⟩ = some (.slice A3 k3 c3) ∧ V.cell? ⟨nL, 4, none⟩ = some (.slice A4 k4 c4) ∧ V.cell? ⟨nL, 5, none⟩ = some (.int .i64 t0) ∧ V.cell? ⟨nL, 6, none⟩ = some (.int .i64 t1) ∧ V.cell? ⟨nL, 7, none⟩ = some (.int .i64 t2) ∧ V.cell? ⟨nL, 8, none⟩ = some (.int .i64 t3) ∧ V.cell? ⟨nL, 9, none⟩ = some (.int .i64 t4) ∧ V.cell? ⟨nM, 0, none⟩ = some (.int .u8 3) ∧ V.cell? ⟨nM, 1, none⟩ = some (.int .i64 I8) ∧ V.cell? ⟨nM, 2, none⟩ = some (.int .i64 0) ∧ V.cell? ⟨nM, 3, none⟩ = some (.int .i64 dd) ∧ V.cell? ⟨nM, 4, none⟩ = some (.int .i64 aa) ∧ V.cell? ⟨nM, 5, none⟩ = some (.bool x.wh) ∧ V.cell? ⟨nM, 6, none⟩ = some (.slice AU U.length cU)) := fun V hV => ⟨(hV.cell (p := ⟨nL, 0, none⟩) (by have := HMf.out.lt; have := HNL.out; show nL < _; omega)).trans (HRf.out.cell 0), (hV.cell (p := ⟨nL, 1, none⟩) (by have := HMf.out.lt; have := HNL.out; show nL < _; omega)).trans (HRf.out.cell 1), (hV.cell (p := ⟨nL, 2, none⟩) (by have := HMf.out.lt; have := HNL.out; show nL < _; omega)).trans (HRf.out.cell 2), (hV.cell (p := ⟨nL, 3, none⟩) (by have := HMf.out.lt; have := HNL.out; show nL < _; omega)).trans (HRf.out.cell 3), (hV.cell (p := ⟨nL, 4, none⟩) (by have := HMf.out.lt; have := HNL.out; show nL < _; omega)).trans (HRf.out.cell 4), (hV.cell (p := ⟨nL, 5, none⟩) (by have := HMf.out.lt; have := HNL.out; show nL < _; omega)).trans (HRf.out.cell 5), (hV.cell (p := ⟨nL, 6, none⟩) (by have := HMf.out.lt; have := HNL.out; show nL < _; omega)).trans (HRf.out.cell 6), (hV.cell (p := ⟨nL, 7, none⟩) (by have := HMf.out.lt; have := HNL.out; show nL < _; omega)).trans (HRf.out.cell 7), (hV.cell (p := ⟨nL, 8, none⟩) (by have := HMf.out.lt; have := HNL.out; show nL < _; omega)).trans (HRf.out.cell 8), (hV.cell (p := ⟨nL, 9, none⟩) (by have := HMf.out.lt; have := HNL.out; show nL < _; omega)).trans (HRf.out.cell 9), (hV.cell (p := ⟨nM, 0, none⟩) (by have := HMf.out.lt; show nM < _; omega)).trans (HMf.out.cell 0), (hV.cell (p := ⟨nM, 1, none⟩) (by have := HMf.out.lt; show nM < _; omega)).trans (HMf.out.cell 1), (hV.cell (p := ⟨nM, 2, none⟩) (by have := HMf.out.lt; show nM < _; omega)).trans (HMf.out.cell 2), (hV.cell (p := ⟨nM, 3, none⟩) (by have := HMf.out.lt; show nM < _; omega)).trans (HMf.out.cell 3), (hV.cell (p := ⟨nM, 4, none⟩) (by have := HMf.out.lt; show nM < _; omega)).trans (HMf.out.cell 4), (hV.cell (p := ⟨nM, 5, none⟩) (by have := HMf.out.lt; show nM < _; omega)).trans (HMf.out.cell 5), (hV.cell (p := ⟨nM, 6, none⟩) (by have := HMf.out.lt; show nM < _; omega)).trans (HMf.out.cell 6)⟩
        have HBD : Hid (Below W.heap.size W W.drew) := (Below.refl _ _).drew
        have s0 := HSS.out W.drew HBD.out
        have HEf : Hid (Below w.heap.size w W) := HE6.out.trans (HBf.out.mono (by have := HD6.out; omega))
        have HSW : Hid (w.heap.size ≤ W.heap.size) := HEf.out.size
        obtain ⟨r0, r1, r2, r3, r4, r5, r6, r7, r8, r9, r10, r11, r12, r13, r14, r15, r16⟩ := (show _ from s0)
        clear hR
        go_region_held3 (fun w' => w'.cell? ⟨nL, 0, none⟩ = some (.slice A0 k0 c0) ∧ w'.cell? ⟨nL, 1, none⟩ = some (.slice A1 k1 c1) ∧ w'.cell? ⟨nL, 2, none⟩ = some (.slice A2 k2 c2) ∧ w'.cell? ⟨nL, 3, none⟩ = some (.slice A3 k3 c3) ∧ w'.cell? ⟨nL, 4, none⟩ = some (.slice A4 k4 c4) ∧ w'.cell? ⟨nL, 5, none⟩ = some (.int .i64 t0) ∧ w'.cell? ⟨nL, 6, none⟩ = some (.int .i64 t1) ∧ w'.cell? ⟨nL, 7, none⟩ = some (.int .i64 t2) ∧ w'.cell? ⟨nL, 8, none⟩ = some (.int .i64 t3) ∧ w'.cell? ⟨nL, 9, none⟩ = some (.int .i64 t4) ∧ w'.cell? ⟨nM, 0, none⟩ = some (.int .u8 3) ∧ w'.cell? ⟨nM, 1, none⟩ = some (.int .i64 I8) ∧ w'.cell? ⟨nM, 2, none⟩ = some (.int .i64 0) ∧ w'.cell? ⟨nM, 3, none⟩ = some (.int .i64 dd) ∧ w'.cell? ⟨nM, 4, none⟩ = some (.int .i64 aa) ∧ w'.cell? ⟨nM, 5, none⟩ = some (.bool x.wh) ∧ w'.cell? ⟨nM, 6, none⟩ = some (.slice AU U.length cU)) (first | (with_reducible assumption) | exact s0 | go_keep) (first | (go_at_call 15; (with_reducible refine (HC15.out W.drew HBD.out).mono ?_); rintro e w15 ⟨rfl, hb5⟩; have HB15 : Hid (Below W.heap.size W w15) := HBD.out.trans hb5; have d5 := HSS.out w15 HB15.out; clear hb5) | (go_at_call 16; (with_reducible refine (HC16.out W.drew HBD.out).mono ?_); rintro e w15 ⟨rfl, hb5⟩; have HB15 : Hid (Below W.heap.size W w15) := HBD.out.trans hb5; have d5 := HSS.out w15 HB15.out; clear hb5) | (go_at_call 15; (with_reducible refine (HC15.out w15 HB15.out).mono ?_); rintro e w16 ⟨rfl, hb5⟩; have HB16 : Hid (Below W.heap.size W w16) := HB15.out.trans (hb5.mono HB15.out.size); have d6 := HSS.out w16 HB16.out; clear hb5) | (go_at_call 16; (with_reducible refine (HC16.out w15 HB15.out).mono ?_); rintro e w16 ⟨rfl, hb5⟩; have HB16 : Hid (Below W.heap.size W w16) := HB15.out.trans (hb5.mono HB15.out.size); have d6 := HSS.out w16 HB16.out; clear hb5))
        all_goals clear s0 d5 d6 r0 r1 r2 r3 r4 r5 r6 r7 r8 r9 r10 r11 r12 r13 r14 r15 r16
        all_goals (go_wp2_with fail)
        all_goals go_ret
        all_goals exact ⟨ret_bool (by simp), HEf.out.trans (HB16.out.mono HSW.out)⟩
      · have HT9 : Hid (Rd w9 w9.heap.size (.slice A7 T.length c7) (ivals T)) := (HTL.out.below HB9.out (Nat.le_refl _)).mono (by have := HN9.out; omega) (fun _ _ => rfl)
        have HLf : Hid (0 ≤ 1000) := Nat.zero_le _
        have hcap : T.length ≤ c7 := by obtain ⟨A', c', e, ⟨-, h2⟩, -⟩ := HT9.out; injection e with e1 e2 e3; subst e3; rw [ivals_length] at h2; exact h2
        obtain ⟨b, o, hA, hbb, -⟩ := HT9.out.at (i := 0) (u := .int .i64 T[0]) (ivals_get T 0 HT0.out)
        subst hA
        have HMf : Hid (Row (w9.setCell ⟨nM, 6, none⟩ (.slice (some ⟨b, o, none⟩) 0 c7)) nM 42 (mcellsR 3 I8 0 dd aa x.wh (.slice (some ⟨b, o, none⟩) 0 c7))) := HM9.out.set 6 (.slice (some ⟨b, o, none⟩) 0 c7)
        have HRf : Hid (Row (w9.setCell ⟨nM, 6, none⟩ (.slice (some ⟨b, o, none⟩) 0 c7)) nL 36 #[.slice A0 k0 c0, .slice A1 k1 c1, .slice A2 k2 c2, .slice A3 k3 c3, .slice A4 k4 c4, .int .i64 t0, .int .i64 t1, .int .i64 t2, .int .i64 t3, .int .i64 t4]) := HR9.out.far (p := ⟨nM, 6, none⟩) (by have := HNL.out; show nL ≠ nM; omega) _
        have HBf : Hid (Below nM w6 (w9.setCell ⟨nM, 6, none⟩ (.slice (some ⟨b, o, none⟩) 0 c7))) := HB9.out.setCell (p := ⟨nM, 6, none⟩) (Nat.le_refl _) _
        have HTf : Hid (Rd (w9.setCell ⟨nM, 6, none⟩ (.slice (some ⟨b, o, none⟩) 0 c7)) (w9.setCell ⟨nM, 6, none⟩ (.slice (some ⟨b, o, none⟩) 0 c7)).heap.size (.slice (some ⟨b, o, none⟩) 0 c7) (ivals [])) := ⟨some ⟨b, o, none⟩, c7, rfl, ⟨(fun e => by cases e), Nat.zero_le _⟩, fun h => absurd h (by simp [ivals])⟩
        clear HM9 HR9 HB9 HT9
        go_upto_region 21 with (fail)
        clear m0 m1 m2 m3 m4 m5 m6 u3 u4 u6
        generalize w9.setCell ⟨nM, 6, none⟩ (.slice (some ⟨b, o, none⟩) 0 c7) = W at *
        obtain ⟨R, hR⟩ : ∃ R, fitsR L ([] : List Int) dd aa = R := ⟨_, rfl⟩
        have HC15 : Hid (∀ V, Below W.heap.size W V → Calls Try.prog 15 #[vg, .agg (mcellsR 3 I8 0 dd aa x.wh (.slice (some ⟨b, o, none⟩) 0 c7))] V (RetL R V)) := fun V hV => by
          have h1 : Below nM w6 V := HBf.out.trans (hV.mono (Nat.le_of_lt HMf.out.lt))
          have h := fits_any V DG vg L (some ⟨b, o, none⟩) c7 ([] : List Int) 3 I8 0 dd aa x.wh (HG6.out.keep h1 HD6.out.1) (by have := hV.size; have := HMf.out.lt; have := HD6.out; omega) HFT.out (HTf.out.up hV) HLf.out
          rw [fits_eq HTM.out, hR] at h
          exact h
        have HC16 : Hid (∀ V, Below W.heap.size W V → Calls Try.prog 16 #[.agg #[.slice A0 k0 c0, .slice A1 k1 c1, .slice A2 k2 c2, .slice A3 k3 c3, .slice A4 k4 c4, .int .i64 t0, .int .i64 t1, .int .i64 t2, .int .i64 t3, .int .i64 t4], .agg (mcellsR 3 I8 0 dd aa x.wh (.slice (some ⟨b, o, none⟩) 0 c7))] V (RetL R V)) := fun V hV => by
          have h1 : Below nM w6 V := HBf.out.trans (hV.mono (Nat.le_of_lt HMf.out.lt))
          have h := refFits_any V DG _ L (some ⟨b, o, none⟩) c7 ([] : List Int) 3 I8 0 dd aa x.wh (HV6.out.keep h1 HD6.out.1) (by have := hV.size; have := HMf.out.lt; have := HD6.out; omega) HFT.out (HTf.out.up hV) HLf.out
          rw [hR] at h
          exact h
        have HSS : Hid (∀ V, Below W.heap.size W V → V.cell? ⟨nL, 0, none⟩ = some (.slice A0 k0 c0) ∧ V.cell? ⟨nL, 1, none⟩ = some (.slice A1 k1 c1) ∧ V.cell? ⟨nL, 2, none⟩ = some (.slice A2 k2 c2) ∧ V.cell? ⟨nL, 3, none⟩ = some (.slice A3 k3 c3) ∧ V.cell? ⟨nL, 4, none⟩ = some (.slice A4 k4 c4) ∧ V.cell? ⟨nL, 5, none⟩ = some (.int .i64 t0) ∧ V.cell? ⟨nL, 6, none⟩ = some (.int .i64 t1) ∧ V.cell? ⟨nL, 7, none⟩ = some (.int .i64 t2) ∧ V.cell? ⟨nL, 8, none⟩ = some (.int .i64 t3) ∧ V.cell? ⟨nL, 9, none⟩ = some (.int .i64 t4) ∧ V.cell? ⟨nM, 0, none⟩ = some (.int .u8 3) ∧ V.cell? ⟨nM, 1, none⟩ = some (.int .i64 I8) ∧ V.cell? ⟨nM, 2, none⟩ = some (.int .i64 0) ∧ V.cell? ⟨nM, 3, none⟩ = some (.int .i64 dd) ∧ V.cell? ⟨nM, 4, none⟩ = some (.int .i64 aa) ∧ V.cell? ⟨nM, 5, none⟩ = some (.bool x.wh) ∧ V.cell? ⟨nM, 6, none⟩ = some (.slice (some ⟨b, o, none⟩) 0 c7)) := fun V hV => ⟨(hV.cell (p := ⟨nL, 0, none⟩) (by have := HMf.out.lt; have := HNL.out; show nL < _; omega)).trans (HRf.out.cell 0), (hV.cell (p := ⟨nL, 1, none⟩) (by have := HMf.out.lt; have := HNL.out; show nL < _; omega)).trans (HRf.out.cell 1), (hV.cell (p := ⟨nL, 2, none⟩) (by have := HMf.out.lt; have := HNL.out; show nL < _; omega)).trans (HRf.out.cell 2), (hV.cell (p := ⟨nL, 3, none⟩) (by have := HMf.out.lt; have := HNL.out; show nL < _; omega)).trans (HRf.out.cell 3), (hV.cell (p := ⟨nL, 4, none⟩) (by have := HMf.out.lt; have := HNL.out; show nL < _; omega)).trans (HRf.out.cell 4), (hV.cell (p := ⟨nL, 5, none⟩) (by have := HMf.out.lt; have := HNL.out; show nL < _; omega)).trans (HRf.out.cell 5), (hV.cell (p := ⟨nL, 6, none⟩) (by have := HMf.out.lt; have := HNL.out; show nL < _; omega)).trans (HRf.out.cell 6), (hV.cell (p := ⟨nL, 7, none⟩) (by have := HMf.out.lt; have := HNL.out; show nL < _; omega)).trans (HRf.out.cell 7), (hV.cell (p := ⟨nL, 8, none⟩) (by have := HMf.out.lt; have := HNL.out; show nL < _; omega)).trans (HRf.out.cell 8), (hV.cell (p := ⟨nL, 9, none⟩) (by have := HMf.out.lt; have := HNL.out; show nL < _; omega)).trans (HRf.out.cell 9), (hV.cell (p := ⟨nM, 0, none⟩) (by have := HMf.out.lt; show nM < _; omega)).trans (HMf.out.cell 0), (hV.cell (p := ⟨nM, 1, none⟩) (by have := HMf.out.lt; show nM < _; omega)).trans (HMf.out.cell 1), (hV.cell (p := ⟨nM, 2, none⟩) (by have := HMf.out.lt; show nM < _; omega)).trans (HMf.out.cell 2), (hV.cell (p := ⟨nM, 3, none⟩) (by have := HMf.out.lt; show nM < _; omega)).trans (HMf.out.cell 3), (hV.cell (p := ⟨nM, 4, none⟩) (by have := HMf.out.lt; show nM < _; omega)).trans (HMf.out.cell 4), (hV.cell (p := ⟨nM, 5, none⟩) (by have := HMf.out.lt; show nM < _; omega)).trans (HMf.out.cell 5), (hV.cell (p := ⟨nM, 6, none⟩) (by have := HMf.out.lt; show nM < _; omega)).trans (HMf.out.cell 6)⟩
        have HBD : Hid (Below W.heap.size W W.drew) := (Below.refl _ _).drew
        have s0 := HSS.out W.drew HBD.out
        have HEf : Hid (Below w.heap.size w W) := HE6.out.trans (HBf.out.mono (by have := HD6.out; omega))
        have HSW : Hid (w.heap.size ≤ W.heap.size) := HEf.out.size
        obtain ⟨r0, r1, r2, r3, r4, r5, r6, r7, r8, r9, r10, r11, r12, r13, r14, r15, r16⟩ := (show _ from s0)
        clear hR
        go_region_held3 (fun w' => w'.cell? ⟨nL, 0, none⟩ = some (.slice A0 k0 c0) ∧ w'.cell? ⟨nL, 1, none⟩ = some (.slice A1 k1 c1) ∧ w'.cell? ⟨nL, 2, none⟩ = some (.slice A2 k2 c2) ∧ w'.cell? ⟨nL, 3, none⟩ = some (.slice A3 k3 c3) ∧ w'.cell? ⟨nL, 4, none⟩ = some (.slice A4 k4 c4) ∧ w'.cell? ⟨nL, 5, none⟩ = some (.int .i64 t0) ∧ w'.cell? ⟨nL, 6, none⟩ = some (.int .i64 t1) ∧ w'.cell? ⟨nL, 7, none⟩ = some (.int .i64 t2) ∧ w'.cell? ⟨nL, 8, none⟩ = some (.int .i64 t3) ∧ w'.cell? ⟨nL, 9, none⟩ = some (.int .i64 t4) ∧ w'.cell? ⟨nM, 0, none⟩ = some (.int .u8 3) ∧ w'.cell? ⟨nM, 1, none⟩ = some (.int .i64 I8) ∧ w'.cell? ⟨nM, 2, none⟩ = some (.int .i64 0) ∧ w'.cell? ⟨nM, 3, none⟩ = some (.int .i64 dd) ∧ w'.cell? ⟨nM, 4, none⟩ = some (.int .i64 aa) ∧ w'.cell? ⟨nM, 5, none⟩ = some (.bool x.wh) ∧ w'.cell? ⟨nM, 6, none⟩ = some (.slice (some ⟨b, o, none⟩) 0 c7)) (first | (with_reducible assumption) | exact s0 | go_keep) (first | (go_at_call 15; (with_reducible refine (HC15.out W.drew HBD.out).mono ?_); rintro e w15 ⟨rfl, hb5⟩; have HB15 : Hid (Below W.heap.size W w15) := HBD.out.trans hb5; have d5 := HSS.out w15 HB15.out; clear hb5) | (go_at_call 16; (with_reducible refine (HC16.out W.drew HBD.out).mono ?_); rintro e w15 ⟨rfl, hb5⟩; have HB15 : Hid (Below W.heap.size W w15) := HBD.out.trans hb5; have d5 := HSS.out w15 HB15.out; clear hb5) | (go_at_call 15; (with_reducible refine (HC15.out w15 HB15.out).mono ?_); rintro e w16 ⟨rfl, hb5⟩; have HB16 : Hid (Below W.heap.size W w16) := HB15.out.trans (hb5.mono HB15.out.size); have d6 := HSS.out w16 HB16.out; clear hb5) | (go_at_call 16; (with_reducible refine (HC16.out w15 HB15.out).mono ?_); rintro e w16 ⟨rfl, hb5⟩; have HB16 : Hid (Below W.heap.size W w16) := HB15.out.trans (hb5.mono HB15.out.size); have d6 := HSS.out w16 HB16.out; clear hb5))
        all_goals clear s0 d5 d6 r0 r1 r2 r3 r4 r5 r6 r7 r8 r9 r10 r11 r12 r13 r14 r15 r16
        all_goals (go_wp2_with fail)
        all_goals go_ret
        all_goals exact ⟨ret_bool (by simp), HEf.out.trans (HB16.out.mono HSW.out)⟩
    · have h12i : (12 : Int) < (x.ts.length : Int) := by omega
      have h12n : 12 < x.ts.length := by omega
      go_enter Try.func3, Try.ntmps3
      go_upto_region 1 with (fail)
      obtain ⟨g0, hg0⟩ : ∃ n, w.heap.size = n := ⟨_, rfl⟩
      obtain ⟨g1, hg1⟩ : ∃ n, g0 + 1 = n := ⟨_, rfl⟩
      rw [hg0] at HRW HRX ⊢
      rw [hg1] at HRX ⊢
      have HG0 : Hid (w.heap.size = g0 ∧ g0 + 1 = g1) := ⟨hg0, hg1⟩
      clear hg0 hg1
      generalize (w.alloc (.cells #[.int .u8 (d0.form : Int), .int .u8 (d0.len : Int), .int .u8 (d0.speed : Int), .int .u16 (d0.mute : Int), .int .u16 (d0.wait : Int), .int .u8 (d0.cancel : Int), .int .u8 (d0.stay : Int), .int .u8 (d0.join : Int), .slice Ar kr cr] 25)).alloc (.cells #[.int .u8 (x.do_ : Int), .int .u8 (x.id : Int), .int .u8 (x.tk : Int), .int .u8 (x.fr : Int), .slice At x.ts.length ct, .int .u16 (x.ah : Int), .bool x.wh, .int .u8 (x.mo : Int)] 28) = W0 at *
      go_wp2_with fail
      refine (nothing_any _).mono ?_; rintro e wA ⟨rfl, hbA⟩
      have HA := Lib.hid (HB0.out.trans (hbA.mono HB0.out.size))
      have HRA := Lib.hid (Below.row hbA HRW.out HRW.out.lt)
      have HXA := Lib.hid (Below.row hbA HRX.out HRX.out.lt)
      clear hbA HB0 HRW HRX
      have f0 := HRA.out.cell 0; have f1 := HRA.out.cell 1; have f2 := HRA.out.cell 2; have f3 := HRA.out.cell 3; have f4 := HRA.out.cell 4; have f5 := HRA.out.cell 5; have f6 := HRA.out.cell 6; have f7 := HRA.out.cell 7; have f8 := HRA.out.cell 8
      simp only [List.getElem?_toArray, List.getElem?_cons_zero, List.getElem?_cons_succ] at f0 f1 f2 f3 f4 f5 f6 f7 f8
      go_wp2_with fail
      refine (small_any wA d0 (.slice Ar kr cr) (HBR.out.up HA.out) HL.out.1 HL.out.2).mono ?_; rintro e wB ⟨rfl, hbB⟩
      clear f0 f1 f2 f3 f4 f5 f6 f7 f8
      rw [hs]
      have HB := Lib.hid (HA.out.trans (hbB.mono HA.out.size))
      have HRB := Lib.hid (Below.row hbB HRA.out HRA.out.lt)
      have HXB := Lib.hid (Below.row hbB HXA.out HXA.out.lt)
      clear hbB HA HRA HXA
      have x4 := HXB.out.cell 4
      simp only [List.getElem?_toArray, List.getElem?_cons_zero, List.getElem?_cons_succ] at x4
      go_wp2_with fail
      refine (nothing_any _).mono ?_; rintro e wZ ⟨rfl, hbZ⟩
      have HZ := Lib.hid (HB.out.trans (hbZ.mono HB.out.size))
      clear hbZ
      go_wp2_with fail
      go_ret
      exact ⟨rfl, HZ.out⟩

end Go.Proofs.Ytifcgkpannlnnaa
