/- The law TrainWhole. -/
import Derived.Test.YtifcgkpannlnnaaF16
import Derived.Test.YtifcgkpannlnnaaFull
import Derived.Test.YtifcgkpannlnnaaJ4
namespace Go.Proofs.Ytifcgkpannlnnaa
open Go.RowKit Fl Go.Maps
set_option maxRecDepth 100000

theorem field42 (a b c d e : Int) (f : Bool) (A : Option Addr) (k cc : Nat) (w : World) : (Instr.field 42 (.agg #[.int .u8 a, .int .i64 b, .int .i64 c, .int .i64 d, .int .i64 e, .bool f, .slice A k cc]) 6).run Try.prog w = .ok (.slice A k cc) w := by kernel_rfl

set_option maxHeartbeats 16000000 in
theorem lawWhole (w : World) (d0 : Dr) (vr : Value) (x y : Ax) (vt vs : Value) (hd : DrOk d0) (hbr : BRows w w.heap.size vr d0.routes) (hl : d0.routes.length ≤ 9223372036854775807) (hrl : ∀ r ∈ d0.routes, r.length ≤ 9223372036854775807)
    (hx : AxOk x) (ht : Rd w w.heap.size vt (bvals x.ts)) (htl : x.ts.length ≤ 9223372036854775807) (hy : AxOk y) (ht2 : Rd w w.heap.size vs (bvals y.ts)) (htl2 : y.ts.length ≤ 9223372036854775807) :
    Calls Try.prog 9 #[drV d0 vr, axV x vt, axV y vs] w (RetL true w) := by
  obtain ⟨Ar, kr, cr, hvr⟩ : ∃ A k c, vr = .slice A k c := by obtain ⟨vs, ⟨A, c, e, _⟩, _⟩ := hbr; exact ⟨A, _, c, e⟩
  subst hvr
  obtain ⟨At, ct, hvt⟩ : ∃ A c, vt = .slice A x.ts.length c := by obtain ⟨A, c, e, _⟩ := ht; exact ⟨A, c, by rw [e, bvals_length]⟩
  subst hvt
  obtain ⟨As, cs, hvs⟩ : ∃ A c, vs = .slice A y.ts.length c := by obtain ⟨A, c, e, _⟩ := ht2; exact ⟨A, c, by rw [e, bvals_length]⟩
  subst hvs
  have HDK := Lib.hid hd
  have HL : Hid (d0.routes.length ≤ 9223372036854775807 ∧ ∀ r ∈ d0.routes, r.length ≤ 9223372036854775807) := ⟨hl, hrl⟩
  have HAX := Lib.hid hx; have HAY := Lib.hid hy
  have HBR := Lib.hid hbr
  have HT := Lib.hid ht; have HT2 := Lib.hid ht2
  clear hd hl hrl hbr hx ht hy ht2
  have HB0 := Lib.hid ((below2 w (.cells #[.int .u8 (d0.form : Int), .int .u8 (d0.len : Int), .int .u8 (d0.speed : Int), .int .u16 (d0.mute : Int), .int .u16 (d0.wait : Int), .int .u8 (d0.cancel : Int), .int .u8 (d0.stay : Int), .int .u8 (d0.join : Int), .slice Ar kr cr] 25) (.cells #[.int .u8 (x.do_ : Int), .int .u8 (x.id : Int), .int .u8 (x.tk : Int), .int .u8 (x.fr : Int), .slice At x.ts.length ct, .int .u16 (x.ah : Int), .bool x.wh, .int .u8 (x.mo : Int)] 28)).alloc (by simp; omega) (.cells #[.int .u8 (y.do_ : Int), .int .u8 (y.id : Int), .int .u8 (y.tk : Int), .int .u8 (y.fr : Int), .slice As y.ts.length cs, .int .u16 (y.ah : Int), .bool y.wh, .int .u8 (y.mo : Int)] 28))
  have HRW := Lib.hid (((Row.new w 25 #[.int .u8 (d0.form : Int), .int .u8 (d0.len : Int), .int .u8 (d0.speed : Int), .int .u16 (d0.mute : Int), .int .u16 (d0.wait : Int), .int .u8 (d0.cancel : Int), .int .u8 (d0.stay : Int), .int .u8 (d0.join : Int), .slice Ar kr cr]).alloc (.cells #[.int .u8 (x.do_ : Int), .int .u8 (x.id : Int), .int .u8 (x.tk : Int), .int .u8 (x.fr : Int), .slice At x.ts.length ct, .int .u16 (x.ah : Int), .bool x.wh, .int .u8 (x.mo : Int)] 28)).alloc (.cells #[.int .u8 (y.do_ : Int), .int .u8 (y.id : Int), .int .u8 (y.tk : Int), .int .u8 (y.fr : Int), .slice As y.ts.length cs, .int .u16 (y.ah : Int), .bool y.wh, .int .u8 (y.mo : Int)] 28))
  have hr1 := (Row.new (w.alloc (.cells #[.int .u8 (d0.form : Int), .int .u8 (d0.len : Int), .int .u8 (d0.speed : Int), .int .u16 (d0.mute : Int), .int .u16 (d0.wait : Int), .int .u8 (d0.cancel : Int), .int .u8 (d0.stay : Int), .int .u8 (d0.join : Int), .slice Ar kr cr] 25)) 28 #[.int .u8 (x.do_ : Int), .int .u8 (x.id : Int), .int .u8 (x.tk : Int), .int .u8 (x.fr : Int), .slice At x.ts.length ct, .int .u16 (x.ah : Int), .bool x.wh, .int .u8 (x.mo : Int)]).alloc (.cells #[.int .u8 (y.do_ : Int), .int .u8 (y.id : Int), .int .u8 (y.tk : Int), .int .u8 (y.fr : Int), .slice As y.ts.length cs, .int .u16 (y.ah : Int), .bool y.wh, .int .u8 (y.mo : Int)] 28)
  rw [World.size_alloc] at hr1
  have HRX := Lib.hid hr1
  have hr2 := Row.new ((w.alloc (.cells #[.int .u8 (d0.form : Int), .int .u8 (d0.len : Int), .int .u8 (d0.speed : Int), .int .u16 (d0.mute : Int), .int .u16 (d0.wait : Int), .int .u8 (d0.cancel : Int), .int .u8 (d0.stay : Int), .int .u8 (d0.join : Int), .slice Ar kr cr] 25)).alloc (.cells #[.int .u8 (x.do_ : Int), .int .u8 (x.id : Int), .int .u8 (x.tk : Int), .int .u8 (x.fr : Int), .slice At x.ts.length ct, .int .u16 (x.ah : Int), .bool x.wh, .int .u8 (x.mo : Int)] 28)) 28 #[.int .u8 (y.do_ : Int), .int .u8 (y.id : Int), .int .u8 (y.tk : Int), .int .u8 (y.fr : Int), .slice As y.ts.length cs, .int .u16 (y.ah : Int), .bool y.wh, .int .u8 (y.mo : Int)]
  rw [World.size_alloc, World.size_alloc] at hr2
  have HRY := Lib.hid hr2
  clear hr1 hr2
  unfold drV axV
  cases hs : small d0 with
  | false =>
    go_enter Try.func9, Try.ntmps9
    go_upto_region 1 with (fail)
    obtain ⟨g0, hg0⟩ : ∃ n, w.heap.size = n := ⟨_, rfl⟩
    obtain ⟨g1, hg1⟩ : ∃ n, g0 + 1 = n := ⟨_, rfl⟩
    obtain ⟨g2, hg2⟩ : ∃ n, g1 + 1 = n := ⟨_, rfl⟩
    rw [hg0] at HRW HRX HRY ⊢
    rw [hg1] at HRX HRY ⊢
    rw [hg2] at HRY ⊢
    have HG0 : Hid (w.heap.size = g0 ∧ g0 + 1 = g1 ∧ g1 + 1 = g2) := ⟨hg0, hg1, hg2⟩
    clear hg0 hg1 hg2
    generalize ((w.alloc (.cells #[.int .u8 (d0.form : Int), .int .u8 (d0.len : Int), .int .u8 (d0.speed : Int), .int .u16 (d0.mute : Int), .int .u16 (d0.wait : Int), .int .u8 (d0.cancel : Int), .int .u8 (d0.stay : Int), .int .u8 (d0.join : Int), .slice Ar kr cr] 25)).alloc (.cells #[.int .u8 (x.do_ : Int), .int .u8 (x.id : Int), .int .u8 (x.tk : Int), .int .u8 (x.fr : Int), .slice At x.ts.length ct, .int .u16 (x.ah : Int), .bool x.wh, .int .u8 (x.mo : Int)] 28)).alloc (.cells #[.int .u8 (y.do_ : Int), .int .u8 (y.id : Int), .int .u8 (y.tk : Int), .int .u8 (y.fr : Int), .slice As y.ts.length cs, .int .u16 (y.ah : Int), .bool y.wh, .int .u8 (y.mo : Int)] 28) = W0 at *
    go_wp2_with fail
    refine (nothing_any _).mono ?_; rintro e wA ⟨rfl, hbA⟩
    have HA := Lib.hid (HB0.out.trans (hbA.mono HB0.out.size))
    have HRA := Lib.hid (Below.row hbA HRW.out HRW.out.lt)
    have HXA := Lib.hid (Below.row hbA HRX.out HRX.out.lt)
    have HYA := Lib.hid (Below.row hbA HRY.out HRY.out.lt)
    clear hbA HB0 HRW HRX HRY
    have f0 := HRA.out.cell 0; have f1 := HRA.out.cell 1; have f2 := HRA.out.cell 2; have f3 := HRA.out.cell 3; have f4 := HRA.out.cell 4; have f5 := HRA.out.cell 5; have f6 := HRA.out.cell 6; have f7 := HRA.out.cell 7; have f8 := HRA.out.cell 8
    simp only [List.getElem?_toArray, List.getElem?_cons_zero, List.getElem?_cons_succ] at f0 f1 f2 f3 f4 f5 f6 f7 f8
    go_wp2_with fail
    refine (small_any wA d0 (.slice Ar kr cr) (HBR.out.up HA.out) HL.out.1 HL.out.2).mono ?_; rintro e wB ⟨rfl, hbB⟩
    clear f0 f1 f2 f3 f4 f5 f6 f7 f8
    rw [hs]
    have HB := Lib.hid (HA.out.trans (hbB.mono HA.out.size))
    have HRB := Lib.hid (Below.row hbB HRA.out HRA.out.lt)
    have HXB := Lib.hid (Below.row hbB HXA.out HXA.out.lt)
    have HYB := Lib.hid (Below.row hbB HYA.out HYA.out.lt)
    clear hbB HA HRA HXA HYA
    have x4 := HXB.out.cell 4; have y4 := HYB.out.cell 4
    simp only [List.getElem?_toArray, List.getElem?_cons_zero, List.getElem?_cons_succ] at x4 y4
    go_wp2_with fail
    refine (nothing_any _).mono ?_; rintro e wZ ⟨rfl, hbZ⟩
    have HZ := Lib.hid (HB.out.trans (hbZ.mono HB.out.size))
    clear hbZ
    go_wp2_with fail
    go_ret
    exact ⟨rfl, HZ.out⟩
  | true =>
    by_cases h12 : x.ts.length ≤ 12
    · have h12i : ¬ (12 : Int) < (x.ts.length : Int) := by omega
      have h12n : ¬ 12 < x.ts.length := by omega
      by_cases h13 : y.ts.length ≤ 12
      · have h13i : ¬ (12 : Int) < (y.ts.length : Int) := by omega
        have h13n : ¬ 12 < y.ts.length := by omega
        go_enter Try.func9, Try.ntmps9
        go_upto_region 1 with (fail)
        obtain ⟨g0, hg0⟩ : ∃ n, w.heap.size = n := ⟨_, rfl⟩
        obtain ⟨g1, hg1⟩ : ∃ n, g0 + 1 = n := ⟨_, rfl⟩
        obtain ⟨g2, hg2⟩ : ∃ n, g1 + 1 = n := ⟨_, rfl⟩
        rw [hg0] at HRW HRX HRY ⊢
        rw [hg1] at HRX HRY ⊢
        rw [hg2] at HRY ⊢
        have HG0 : Hid (w.heap.size = g0 ∧ g0 + 1 = g1 ∧ g1 + 1 = g2) := ⟨hg0, hg1, hg2⟩
        clear hg0 hg1 hg2
        generalize ((w.alloc (.cells #[.int .u8 (d0.form : Int), .int .u8 (d0.len : Int), .int .u8 (d0.speed : Int), .int .u16 (d0.mute : Int), .int .u16 (d0.wait : Int), .int .u8 (d0.cancel : Int), .int .u8 (d0.stay : Int), .int .u8 (d0.join : Int), .slice Ar kr cr] 25)).alloc (.cells #[.int .u8 (x.do_ : Int), .int .u8 (x.id : Int), .int .u8 (x.tk : Int), .int .u8 (x.fr : Int), .slice At x.ts.length ct, .int .u16 (x.ah : Int), .bool x.wh, .int .u8 (x.mo : Int)] 28)).alloc (.cells #[.int .u8 (y.do_ : Int), .int .u8 (y.id : Int), .int .u8 (y.tk : Int), .int .u8 (y.fr : Int), .slice As y.ts.length cs, .int .u16 (y.ah : Int), .bool y.wh, .int .u8 (y.mo : Int)] 28) = W0 at *
        go_wp2_with fail
        refine (nothing_any _).mono ?_; rintro e wA ⟨rfl, hbA⟩
        have HA := Lib.hid (HB0.out.trans (hbA.mono HB0.out.size))
        have HRA := Lib.hid (Below.row hbA HRW.out HRW.out.lt)
        have HXA := Lib.hid (Below.row hbA HRX.out HRX.out.lt)
        have HYA := Lib.hid (Below.row hbA HRY.out HRY.out.lt)
        clear hbA HB0 HRW HRX HRY
        have f0 := HRA.out.cell 0; have f1 := HRA.out.cell 1; have f2 := HRA.out.cell 2; have f3 := HRA.out.cell 3; have f4 := HRA.out.cell 4; have f5 := HRA.out.cell 5; have f6 := HRA.out.cell 6; have f7 := HRA.out.cell 7; have f8 := HRA.out.cell 8
        simp only [List.getElem?_toArray, List.getElem?_cons_zero, List.getElem?_cons_succ] at f0 f1 f2 f3 f4 f5 f6 f7 f8
        go_wp2_with fail
        refine (small_any wA d0 (.slice Ar kr cr) (HBR.out.up HA.out) HL.out.1 HL.out.2).mono ?_; rintro e wB ⟨rfl, hbB⟩
        clear f0 f1 f2 f3 f4 f5 f6 f7 f8
        rw [hs]
        have HB := Lib.hid (HA.out.trans (hbB.mono HA.out.size))
        have HRB := Lib.hid (Below.row hbB HRA.out HRA.out.lt)
        have HXB := Lib.hid (Below.row hbB HXA.out HXA.out.lt)
        have HYB := Lib.hid (Below.row hbB HYA.out HYA.out.lt)
        clear hbB HA HRA HXA HYA
        have x4 := HXB.out.cell 4; have y4 := HYB.out.cell 4
        simp only [List.getElem?_toArray, List.getElem?_cons_zero, List.getElem?_cons_succ] at x4 y4
        have f0 := HRB.out.cell 0; have f1 := HRB.out.cell 1; have f2 := HRB.out.cell 2; have f3 := HRB.out.cell 3; have f4 := HRB.out.cell 4; have f5 := HRB.out.cell 5; have f6 := HRB.out.cell 6; have f7 := HRB.out.cell 7; have f8 := HRB.out.cell 8
        simp only [List.getElem?_toArray, List.getElem?_cons_zero, List.getElem?_cons_succ] at f0 f1 f2 f3 f4 f5 f6 f7 f8
        go_wp2_with fail
        refine (full_any wB d0 (.slice Ar kr cr) HDK.out (HBR.out.up HB.out) hs).mono ?_; rintro e wC ⟨vL, rfl, hvL, hbL⟩
        clear f0 f1 f2 f3 f4 f5 f6 f7 f8
        have HC := Lib.hid (HB.out.trans (hbL.mono HB.out.size))
        have HXC := Lib.hid (Below.row hbL HXB.out HXB.out.lt)
        have HYC := Lib.hid (Below.row hbL HYB.out HYB.out.lt)
        clear hbL HB HRB HXB HYB x4 y4
        have HFT : Hid (Fits (fullL d0)) := fullL_fits d0
        have HTM : Hid (Tame (fullL d0)) := tame_full d0
        have HSE := Lib.hid (full_secs d0)
        generalize fullL d0 = L at *
        have HVL := Lib.hid hvL
        obtain ⟨A0, k0, c0, A1, k1, c1, A2, k2, c2, A3, k3, c3, A4, k4, c4, t0, t1, t2, t3, t4, hv, -, -, -, -⟩ := hvL.lens
        subst hv
        clear hvL
        have hb2 := (Below.refl wC.heap.size wC).alloc (Nat.le_refl _) (.cells #[.slice A0 k0 c0, .slice A1 k1 c1, .slice A2 k2 c2, .slice A3 k3 c3, .slice A4 k4 c4, .int .i64 t0, .int .i64 t1, .int .i64 t2, .int .i64 t3, .int .i64 t4] 36)
        have HD := Lib.hid (HC.out.trans (hb2.mono HC.out.size))
        have HV2 := Lib.hid (HVL.out.up hb2)
        have HR2 := Lib.hid (Row.new wC 36 #[.slice A0 k0 c0, .slice A1 k1 c1, .slice A2 k2 c2, .slice A3 k3 c3, .slice A4 k4 c4, .int .i64 t0, .int .i64 t1, .int .i64 t2, .int .i64 t3, .int .i64 t4])
        have HX2 := Lib.hid (Below.row hb2 HXC.out HXC.out.lt)
        have HY2 := Lib.hid (Below.row hb2 HYC.out HYC.out.lt)
        clear hb2 HC HVL HXC HYC
        go_upto_region 4 with (fail)
        obtain ⟨nL, hnL⟩ : ∃ n, wC.heap.size = n := ⟨_, rfl⟩
        rw [hnL] at HR2 ⊢
        clear hnL
        generalize wC.alloc (.cells #[.slice A0 k0 c0, .slice A1 k1 c1, .slice A2 k2 c2, .slice A3 k3 c3, .slice A4 k4 c4, .int .i64 t0, .int .i64 t1, .int .i64 t2, .int .i64 t3, .int .i64 t4] 36) = wD at *
        have p0 := HR2.out.cell 0; have p1 := HR2.out.cell 1; have p2 := HR2.out.cell 2; have p3 := HR2.out.cell 3; have p4 := HR2.out.cell 4; have p5 := HR2.out.cell 5; have p6 := HR2.out.cell 6; have p7 := HR2.out.cell 7; have p8 := HR2.out.cell 8; have p9 := HR2.out.cell 9
        simp only [List.getElem?_toArray, List.getElem?_cons_zero, List.getElem?_cons_succ] at p0 p1 p2 p3 p4 p5 p6 p7 p8 p9
        go_wp2_with fail
        refine (new_any wD _ L HV2.out HFT.out).mono ?_; rintro e wE ⟨vg, rfl, hg, hbE⟩
        clear p0 p1 p2 p3 p4 p5 p6 p7 p8 p9
        have HE := Lib.hid (HD.out.trans (hbE.mono HD.out.size))
        have HV3 := Lib.hid (HV2.out.up hbE)
        have HR3 := Lib.hid (Below.row hbE HR2.out HR2.out.lt)
        have HX3 := Lib.hid (Below.row hbE HX2.out HX2.out.lt)
        have HY3 := Lib.hid (Below.row hbE HY2.out HY2.out.lt)
        have HGR := Lib.hid hg
        clear hg hbE HD HV2 HR2 HX2 HY2
        go_wp2_with fail
        refine (reg_new wE).mono ?_; rintro e wF ⟨rb, mb, rfl, hr, hbF, hmb, hrb⟩
        have HST : Hid (TSt w wE.heap.size g1 g2 nL wE.heap.size rb mb #[.slice A0 k0 c0, .slice A1 k1 c1, .slice A2 k2 c2, .slice A3 k3 c3, .slice A4 k4 c4, .int .i64 t0, .int .i64 t1, .int .i64 t2, .int .i64 t3, .int .i64 t4] #[.int .u8 (x.do_ : Int), .int .u8 (x.id : Int), .int .u8 (x.tk : Int), .int .u8 (x.fr : Int), .slice At x.ts.length ct, .int .u16 (x.ah : Int), .bool x.wh, .int .u8 (x.mo : Int)] #[.int .u8 (y.do_ : Int), .int .u8 (y.id : Int), .int .u8 (y.tk : Int), .int .u8 (y.fr : Int), .slice As y.ts.length cs, .int .u16 (y.ah : Int), .bool y.wh, .int .u8 (y.mo : Int)] vg L 0 (fun _ => none) wF) :=
          ⟨HE.out.trans (hbF.mono HE.out.size), Below.row hbF HX3.out HX3.out.lt, Below.row hbF HY3.out HY3.out.lt, Below.row hbF HR3.out HR3.out.lt, HGR.out.keep hbF (Nat.le_refl _), HV3.out.keep hbF (Nat.le_refl _), hr, HE.out.size, HX3.out.lt, HY3.out.lt, HR3.out.lt, Nat.le_refl _, hbF.size, hmb⟩
        have HRB : Hid (wE.heap.size ≤ rb) := hrb
        clear hr hbF hmb hrb HE HV3 HR3 HX3 HY3 HGR
        generalize wE.heap.size = B at *
        have HKN : Hid (Ks [] (fun _ => none)) := ⟨by simp, fun x => by simp⟩
        have HNE : Hid (g1 ≠ g2 ∧ nL ≠ g1 ∧ nL ≠ g2 ∧ w.heap.size ≤ g1 ∧ w.heap.size ≤ g2) := ⟨by have := HG0.out; omega, row_types HST.out.rl HST.out.r1 (by decide), row_types HST.out.rl HST.out.r2 (by decide), by have := HG0.out; omega, by have := HG0.out; omega⟩
        have e0 := HST.out.r1.cell 0; have z0 := HST.out.r1.frozen 0
        simp only [List.getElem?_toArray, List.getElem?_cons_zero] at e0
        have HS1 : Hid (TSt w B g1 g2 nL B rb mb #[.slice A0 k0 c0, .slice A1 k1 c1, .slice A2 k2 c2, .slice A3 k3 c3, .slice A4 k4 c4, .int .i64 t0, .int .i64 t1, .int .i64 t2, .int .i64 t3, .int .i64 t4] #[.int .u8 0, .int .u8 (x.id : Int), .int .u8 (x.tk : Int), .int .u8 (x.fr : Int), .slice At x.ts.length ct, .int .u16 (x.ah : Int), .bool x.wh, .int .u8 (x.mo : Int)] #[.int .u8 (y.do_ : Int), .int .u8 (y.id : Int), .int .u8 (y.tk : Int), .int .u8 (y.fr : Int), .slice As y.ts.length cs, .int .u16 (y.ah : Int), .bool y.wh, .int .u8 (y.mo : Int)] vg L 0 (fun _ => none) (wF.setCell ⟨g1, 0, none⟩ (.int .u8 0))) := HST.out.set1 0 (.int .u8 0) (kn_set _ e0) (HST.out.r1.set 0 (.int .u8 0)) HNE.out.1 HNE.out.2.1 HNE.out.2.2.2.1 HRB.out
        have e1 := HS1.out.r2.cell 0; have z1 := HS1.out.r2.frozen 0
        simp only [List.getElem?_toArray, List.getElem?_cons_zero] at e1
        have HS2 : Hid (TSt w B g1 g2 nL B rb mb #[.slice A0 k0 c0, .slice A1 k1 c1, .slice A2 k2 c2, .slice A3 k3 c3, .slice A4 k4 c4, .int .i64 t0, .int .i64 t1, .int .i64 t2, .int .i64 t3, .int .i64 t4] #[.int .u8 0, .int .u8 (x.id : Int), .int .u8 (x.tk : Int), .int .u8 (x.fr : Int), .slice At x.ts.length ct, .int .u16 (x.ah : Int), .bool x.wh, .int .u8 (x.mo : Int)] #[.int .u8 0, .int .u8 (y.id : Int), .int .u8 (y.tk : Int), .int .u8 (y.fr : Int), .slice As y.ts.length cs, .int .u16 (y.ah : Int), .bool y.wh, .int .u8 (y.mo : Int)] vg L 0 (fun _ => none) ((wF.setCell ⟨g1, 0, none⟩ (.int .u8 0)).setCell ⟨g2, 0, none⟩ (.int .u8 0))) := HS1.out.set2 0 (.int .u8 0) (kn_set _ e1) (HS1.out.r2.set 0 (.int .u8 0)) HNE.out.1 HNE.out.2.2.1 HNE.out.2.2.2.2 HRB.out
        have e2 := HS2.out.r1.cell 1; have z2 := HS2.out.r1.frozen 1
        simp only [List.getElem?_toArray, List.getElem?_cons_zero, List.getElem?_cons_succ] at e2
        have HS3 : Hid (TSt w B g1 g2 nL B rb mb #[.slice A0 k0 c0, .slice A1 k1 c1, .slice A2 k2 c2, .slice A3 k3 c3, .slice A4 k4 c4, .int .i64 t0, .int .i64 t1, .int .i64 t2, .int .i64 t3, .int .i64 t4] #[.int .u8 0, .int .u8 3, .int .u8 (x.tk : Int), .int .u8 (x.fr : Int), .slice At x.ts.length ct, .int .u16 (x.ah : Int), .bool x.wh, .int .u8 (x.mo : Int)] #[.int .u8 0, .int .u8 (y.id : Int), .int .u8 (y.tk : Int), .int .u8 (y.fr : Int), .slice As y.ts.length cs, .int .u16 (y.ah : Int), .bool y.wh, .int .u8 (y.mo : Int)] vg L 0 (fun _ => none) (((wF.setCell ⟨g1, 0, none⟩ (.int .u8 0)).setCell ⟨g2, 0, none⟩ (.int .u8 0)).setCell ⟨g1, 1, none⟩ (.int .u8 3))) := HS2.out.set1 1 (.int .u8 3) (kn_set _ e2) (HS2.out.r1.set 1 (.int .u8 3)) HNE.out.1 HNE.out.2.1 HNE.out.2.2.2.1 HRB.out
        have e3 := HS3.out.r2.cell 1; have z3 := HS3.out.r2.frozen 1
        simp only [List.getElem?_toArray, List.getElem?_cons_zero, List.getElem?_cons_succ] at e3
        have HS4 : Hid (TSt w B g1 g2 nL B rb mb #[.slice A0 k0 c0, .slice A1 k1 c1, .slice A2 k2 c2, .slice A3 k3 c3, .slice A4 k4 c4, .int .i64 t0, .int .i64 t1, .int .i64 t2, .int .i64 t3, .int .i64 t4] #[.int .u8 0, .int .u8 3, .int .u8 (x.tk : Int), .int .u8 (x.fr : Int), .slice At x.ts.length ct, .int .u16 (x.ah : Int), .bool x.wh, .int .u8 (x.mo : Int)] #[.int .u8 0, .int .u8 3, .int .u8 (y.tk : Int), .int .u8 (y.fr : Int), .slice As y.ts.length cs, .int .u16 (y.ah : Int), .bool y.wh, .int .u8 (y.mo : Int)] vg L 0 (fun _ => none) ((((wF.setCell ⟨g1, 0, none⟩ (.int .u8 0)).setCell ⟨g2, 0, none⟩ (.int .u8 0)).setCell ⟨g1, 1, none⟩ (.int .u8 3)).setCell ⟨g2, 1, none⟩ (.int .u8 3))) := HS3.out.set2 1 (.int .u8 3) (kn_set _ e3) (HS3.out.r2.set 1 (.int .u8 3)) HNE.out.1 HNE.out.2.2.1 HNE.out.2.2.2.2 HRB.out
        have e4 := HS4.out.r1.cell 6; have z4 := HS4.out.r1.frozen 6
        simp only [List.getElem?_toArray, List.getElem?_cons_zero, List.getElem?_cons_succ] at e4
        have HS5 : Hid (TSt w B g1 g2 nL B rb mb #[.slice A0 k0 c0, .slice A1 k1 c1, .slice A2 k2 c2, .slice A3 k3 c3, .slice A4 k4 c4, .int .i64 t0, .int .i64 t1, .int .i64 t2, .int .i64 t3, .int .i64 t4] #[.int .u8 0, .int .u8 3, .int .u8 (x.tk : Int), .int .u8 (x.fr : Int), .slice At x.ts.length ct, .int .u16 (x.ah : Int), .bool true, .int .u8 (x.mo : Int)] #[.int .u8 0, .int .u8 3, .int .u8 (y.tk : Int), .int .u8 (y.fr : Int), .slice As y.ts.length cs, .int .u16 (y.ah : Int), .bool y.wh, .int .u8 (y.mo : Int)] vg L 0 (fun _ => none) (((((wF.setCell ⟨g1, 0, none⟩ (.int .u8 0)).setCell ⟨g2, 0, none⟩ (.int .u8 0)).setCell ⟨g1, 1, none⟩ (.int .u8 3)).setCell ⟨g2, 1, none⟩ (.int .u8 3)).setCell ⟨g1, 6, none⟩ (.bool true))) := HS4.out.set1 6 (.bool true) (kn_bool _ e4) (HS4.out.r1.set 6 (.bool true)) HNE.out.1 HNE.out.2.1 HNE.out.2.2.2.1 HRB.out
        clear HST
        go_upto_region 6 with (fail)
        clear e0 z0 e1 z1 e2 z2 e3 z3 e4 z4 HS1 HS2 HS3 HS4
        generalize (((((wF.setCell ⟨g1, 0, none⟩ (.int .u8 0)).setCell ⟨g2, 0, none⟩ (.int .u8 0)).setCell ⟨g1, 1, none⟩ (.int .u8 3)).setCell ⟨g2, 1, none⟩ (.int .u8 3)).setCell ⟨g1, 6, none⟩ (.bool true)) = wG at *
        have HWY := Lib.hid (rep_wf HTM.out HFT.out y.fr y.mo y.ts HSE.out.1 HAY.out.fr)
        have HWX := Lib.hid (rep_wf HTM.out HFT.out x.fr x.mo x.ts HSE.out.1 HAX.out.fr)
        have HFY := Lib.hid (rep_fits HTM.out y.fr y.ah y.mo y.ts HSE.out.1 HAY.out.fr (fun n hn => (HSE.out.2 n hn).1))
        have HFX := Lib.hid (rep_fits HTM.out x.fr x.ah x.mo x.ts HSE.out.1 HAX.out.fr (fun n hn => (HSE.out.2 n hn).1))
        have HRY6 : Hid (∀ W, Below wG.heap.size wG W → Calls Try.prog 14 #[.agg #[.slice A0 k0 c0, .slice A1 k1 c1, .slice A2 k2 c2, .slice A3 k3 c3, .slice A4 k4 c4, .int .i64 t0, .int .i64 t1, .int .i64 t2, .int .i64 t3, .int .i64 t4], .agg #[.int .u8 0, .int .u8 3, .int .u8 (y.tk : Int), .int .u8 (y.fr : Int), .slice As y.ts.length cs, .int .u16 (y.ah : Int), .bool y.wh, .int .u8 (y.mo : Int)], .int .i64 6] W (RetRep L 3 y.fr y.mo y.ah y.wh y.ts 6 W)) := fun W hW => (HS5.out.call hW).rep HFT.out HSE.out 3 y.tk y.fr y.ah y.mo y.wh As cs y.ts 6 (by decide) HAY.out.fr HAY.out.ah HAY.out.mo HT2.out HAY.out.by_ (by omega)
        have y0 := HS5.out.r2.cell 0; have y1 := HS5.out.r2.cell 1; have y2 := HS5.out.r2.cell 2; have y3 := HS5.out.r2.cell 3; have y4 := HS5.out.r2.cell 4; have y5 := HS5.out.r2.cell 5; have y6 := HS5.out.r2.cell 6; have y7 := HS5.out.r2.cell 7
        simp only [List.getElem?_toArray, List.getElem?_cons_zero, List.getElem?_cons_succ] at y0 y1 y2 y3 y4 y5 y6 y7
        have p0 := HS5.out.rl.cell 0; have p1 := HS5.out.rl.cell 1; have p2 := HS5.out.rl.cell 2; have p3 := HS5.out.rl.cell 3; have p4 := HS5.out.rl.cell 4; have p5 := HS5.out.rl.cell 5; have p6 := HS5.out.rl.cell 6; have p7 := HS5.out.rl.cell 7; have p8 := HS5.out.rl.cell 8; have p9 := HS5.out.rl.cell 9
        simp only [List.getElem?_toArray, List.getElem?_cons_zero, List.getElem?_cons_succ] at p0 p1 p2 p3 p4 p5 p6 p7 p8 p9
        go_wp2_with fail
        refine (HRY6.out wG (Below.refl _ _)).mono ?_; rintro e w6 ⟨AM, cM, rfl, ho6, hb6⟩
        clear p0 p1 p2 p3 p4 p5 p6 p7 p8 p9
        clear y0 y1 y2 y3 y4 y5 y6 y7
        clear HRY6
        obtain ⟨TY, hT⟩ : ∃ T, repT L y.fr y.mo y.ts = T := ⟨_, rfl⟩
        obtain ⟨dY, hdd⟩ : ∃ T : Int, 1 - ((y.fr / 128 : Nat) : Int) = T := ⟨_, rfl⟩
        obtain ⟨aY, haa⟩ : ∃ T : Int, ((repA L y.fr y.ah : Nat) : Int) = T := ⟨_, rfl⟩
        rw [hT] at HFY HWY ho6 ⊢
        rw [hdd, haa] at HFY ⊢
        rw [show ((3 % 8 : Nat) : Int) = 3 from rfl]
        clear hT hdd haa
        have HS6 := Lib.hid (HS5.out.call hb6)
        have HT6 := Lib.hid (Rd.of_own ho6)
        clear ho6 hb6 HS5
        have hbm := (Below.refl w6.heap.size w6).alloc (Nat.le_refl _) (.cells (mcellsR 3 3 6 dY aY y.wh (.slice AM TY.length cM)) 42)
        have HRM := Lib.hid (Row.new w6 42 (mcellsR 3 3 6 dY aY y.wh (.slice AM TY.length cM)))
        have HS7 := Lib.hid (HS6.out.call hbm)
        have HT7 := Lib.hid (HT6.out.up hbm)
        clear hbm HS6 HT6
        go_upto_region 7 with (fail)
        obtain ⟨nM, hnM⟩ : ∃ n, w6.heap.size = n := ⟨_, rfl⟩
        rw [hnM] at HRM ⊢
        clear hnM
        generalize w6.alloc (.cells (mcellsR 3 3 6 dY aY y.wh (.slice AM TY.length cM)) 42) = w7 at *
        go_wp2_with fail
        refine (open_ok w7 rb mb 0 _ [] HS7.out.reg (by omega) HKN.out 3 4 (wf_in (by decide) (by decide)) rfl (by decide)).mono ?_; rintro e w8 ⟨rfl, hr8, hk8⟩
        have HS8 := Lib.hid (HS7.out.turn hk8 hr8)
        have HT8 := Lib.hid (HS7.out.kept HT7.out hk8)
        have hne8 : nM ≠ mb := by
          obtain ⟨es, ck, e⟩ := HS7.out.reg.is
          rintro rfl
          have h1 := HRM.out
          unfold Row at h1
          rw [e] at h1; cases h1
        have HNM := Lib.hid hne8
        have HRM8 := Lib.hid (hk8.row HRM.out (by simpa using hne8))
        clear hk8 hr8 hne8 HS7 HT7 HRM
        have HRX8 : Hid (∀ W, Below w8.heap.size w8 W → Calls Try.prog 14 #[.agg #[.slice A0 k0 c0, .slice A1 k1 c1, .slice A2 k2 c2, .slice A3 k3 c3, .slice A4 k4 c4, .int .i64 t0, .int .i64 t1, .int .i64 t2, .int .i64 t3, .int .i64 t4], .agg #[.int .u8 0, .int .u8 3, .int .u8 (x.tk : Int), .int .u8 (x.fr : Int), .slice At x.ts.length ct, .int .u16 (x.ah : Int), .bool true, .int .u8 (x.mo : Int)], .int .i64 5] W (RetRep L 3 x.fr x.mo x.ah true x.ts 5 W)) := fun W hW => (HS8.out.call hW).rep HFT.out HSE.out 3 x.tk x.fr x.ah x.mo true At ct x.ts 5 (by decide) HAX.out.fr HAX.out.ah HAX.out.mo HT.out HAX.out.by_ (by omega)
        have x0 := HS8.out.r1.cell 0; have x1 := HS8.out.r1.cell 1; have x2 := HS8.out.r1.cell 2; have x3 := HS8.out.r1.cell 3; have x4 := HS8.out.r1.cell 4; have x5 := HS8.out.r1.cell 5; have x6 := HS8.out.r1.cell 6; have x7 := HS8.out.r1.cell 7
        simp only [List.getElem?_toArray, List.getElem?_cons_zero, List.getElem?_cons_succ] at x0 x1 x2 x3 x4 x5 x6 x7
        have p0 := HS8.out.rl.cell 0; have p1 := HS8.out.rl.cell 1; have p2 := HS8.out.rl.cell 2; have p3 := HS8.out.rl.cell 3; have p4 := HS8.out.rl.cell 4; have p5 := HS8.out.rl.cell 5; have p6 := HS8.out.rl.cell 6; have p7 := HS8.out.rl.cell 7; have p8 := HS8.out.rl.cell 8; have p9 := HS8.out.rl.cell 9
        simp only [List.getElem?_toArray, List.getElem?_cons_zero, List.getElem?_cons_succ] at p0 p1 p2 p3 p4 p5 p6 p7 p8 p9
        go_wp2_with fail
        refine (HRX8.out w8 (Below.refl _ _)).mono ?_; rintro e w9 ⟨AN, cN, rfl, ho9, hb9⟩
        clear p0 p1 p2 p3 p4 p5 p6 p7 p8 p9
        clear x0 x1 x2 x3 x4 x5 x6 x7
        clear HRX8
        obtain ⟨TX, hT⟩ : ∃ T, repT L x.fr x.mo x.ts = T := ⟨_, rfl⟩
        obtain ⟨dX, hdd⟩ : ∃ T : Int, 1 - ((x.fr / 128 : Nat) : Int) = T := ⟨_, rfl⟩
        obtain ⟨aX, haa⟩ : ∃ T : Int, ((repA L x.fr x.ah : Nat) : Int) = T := ⟨_, rfl⟩
        have HTX := Lib.hid hT
        rw [hT] at HFX HWX ho9 ⊢
        rw [hdd, haa] at HFX ⊢
        rw [show ((3 % 8 : Nat) : Int) = 3 from rfl]
        clear hT hdd haa
        have HS9 := Lib.hid (HS8.out.call hb9)
        have HT9 := Lib.hid (HT8.out.up hb9)
        have HM9 := Lib.hid (Below.row hb9 HRM8.out HRM8.out.lt)
        have HU9 := Lib.hid (Rd.of_own ho9)
        clear ho9 hb9 HS8 HT8 HRM8
        have hfp : fitsP L TX dX aX = true := by rw [fits_eq HTM.out]; exact HFX.out
        have HNO := Lib.hid (note_ok w9 rb mb 1 _ HS9.out.reg B vg L 5 3 5 dX aX true AN cN TX (.slice none 0 0) ⟨3, 4, -1, 0, 0, []⟩ (wf_in (by decide) (by decide)) (by simp [upd]) HS9.out.gr HS9.out.sw HFT.out HU9.out (by have := HWX.out.2.2; omega) hfp (by decide) (by omega) [] (Rd.empty _ _) (by simp) HWX.out.1 (by intro n hn; simp at hn) rfl)
        clear hfp
        go_wp2_with fail
        refine HNO.out.mono ?_; rintro e w10 ⟨rfl, hr10, hk10⟩
        have HS10 := Lib.hid (HS9.out.turn hk10 hr10)
        have HT10 := Lib.hid (HS9.out.kept HT9.out hk10)
        have HM10 := Lib.hid (hk10.row HM9.out (by simpa using HNM.out))
        clear hk10 hr10 HS9 HT9 HM9 HU9 HNO
        have HGE := Lib.hid (get_some w10 rb mb _ _ HS10.out.reg 3 (wf_in (by decide) (by decide)) ⟨3, 5, 5, dX, aX, TX⟩ (by simp [upd]) (by have := HWX.out.2.2; show TX.length ≤ _; omega))
        go_wp2_with fail
        refine HGE.out.mono ?_; rintro e w11 ⟨vA, rfl, ho11, hb11⟩
        obtain ⟨AA, cA, hvA⟩ := own_slice ho11
        subst hvA
        simp only at ho11 ⊢
        have HS11 := Lib.hid (HS10.out.call hb11)
        have HT11 := Lib.hid (HT10.out.up hb11)
        have HM11 := Lib.hid (Below.row hb11 HM10.out HM10.out.lt)
        have HA11 := Lib.hid (Rd.of_own ho11)
        clear ho11 hb11 HS10 HT10 HM10 HGE
        have hba := (Below.refl w11.heap.size w11).alloc (Nat.le_refl _) (.cells (tcells 3 5 5 dX aX (.slice AA TX.length cA)) 58)
        have HS12 := Lib.hid (HS11.out.call hba)
        have HT12 := Lib.hid (HT11.out.up hba)
        have HM12 := Lib.hid (Below.row hba HM11.out HM11.out.lt)
        have HA12 := Lib.hid (HA11.out.up hba)
        have HRA := Lib.hid (Row.new w11 58 (tcells 3 5 5 dX aX (.slice AA TX.length cA)))
        clear hba HS11 HT11 HM11 HA11
        go_upto_region 10 with (fail)
        obtain ⟨nA, hnA⟩ : ∃ n, w11.heap.size = n := ⟨_, rfl⟩
        rw [hnA] at HRA ⊢
        clear hnA
        generalize w11.alloc (.cells (tcells 3 5 5 dX aX (.slice AA TX.length cA)) 58) = w12 at *
        have HTX2 : Hid (0 < TX.length ∧ TX.length ≤ 5 ∧ Wf TX) := ⟨HWX.out.2.1, HWX.out.2.2, HWX.out.1⟩
        have HTY2 : Hid (0 < TY.length ∧ TY.length ≤ 5 ∧ Wf TY) := ⟨HWY.out.2.1, HWY.out.2.2, HWY.out.1⟩
        have hneA : nA ≠ mb := by
          obtain ⟨es, ck, e⟩ := HS12.out.reg.is
          rintro rfl
          have h1 := HRA.out
          unfold Row at h1
          rw [e] at h1; cases h1
        have HNA := Lib.hid hneA
        clear hneA
        have HRX : Hid (∀ W, Below w12.heap.size w12 W → Calls Try.prog 14 #[.agg #[.slice A0 k0 c0, .slice A1 k1 c1, .slice A2 k2 c2, .slice A3 k3 c3, .slice A4 k4 c4, .int .i64 t0, .int .i64 t1, .int .i64 t2, .int .i64 t3, .int .i64 t4], .agg #[.int .u8 0, .int .u8 3, .int .u8 (x.tk : Int), .int .u8 (x.fr : Int), .slice At x.ts.length ct, .int .u16 (x.ah : Int), .bool true, .int .u8 (x.mo : Int)], .int .i64 5] W (fun e w' => ∃ i d a A c, e = .returned (.agg #[.int .u8 3, .int .i64 i, .int .i64 5, .int .i64 d, .int .i64 a, .bool true, .slice A TX.length c]) ∧ Rd w' w'.heap.size (.slice A TX.length c) (ivals TX) ∧ Below W.heap.size W w')) := fun W hW => by
          refine ((HS12.out.call hW).rep HFT.out HSE.out 3 x.tk x.fr x.ah x.mo true At ct x.ts 5 (by decide) HAX.out.fr HAX.out.ah HAX.out.mo HT.out HAX.out.by_ (by omega)).mono ?_
          rintro e w' ⟨A, c, rfl, ho, hb⟩
          rw [HTX.out] at ho ⊢
          exact ⟨_, _, _, A, c, rfl, Rd.of_own ho, hb⟩
        have HSS : Hid (∀ V, Row V nL 36 #[.slice A0 k0 c0, .slice A1 k1 c1, .slice A2 k2 c2, .slice A3 k3 c3, .slice A4 k4 c4, .int .i64 t0, .int .i64 t1, .int .i64 t2, .int .i64 t3, .int .i64 t4] → Row V g1 28 #[.int .u8 0, .int .u8 3, .int .u8 (x.tk : Int), .int .u8 (x.fr : Int), .slice At x.ts.length ct, .int .u16 (x.ah : Int), .bool true, .int .u8 (x.mo : Int)] → Row V nA 58 (tcells 3 5 5 dX aX (.slice AA TX.length cA)) → Row V nM 42 (mcellsR 3 3 6 dY aY y.wh (.slice AM TY.length cM)) → V.cell? ⟨nL, 0, none⟩ = some (.slice A0 k0 c0) ∧ V.cell? ⟨nL, 1, none⟩ = some (.slice A1 k1 c1) ∧ V.cell? ⟨nL, 2, none⟩ = some (.slice A2 k2 c2) ∧ V.cell? ⟨nL, 3, none⟩ = some (.slice A3 k3 c3) ∧ V.cell? ⟨nL, 4, none⟩ = some (.slice A4 k4 c4) ∧ V.cell? ⟨nL, 5, none⟩ = some (.int .i64 t0) ∧ V.cell? ⟨nL, 6, none⟩ = some (.int .i64 t1) ∧ V.cell? ⟨nL, 7, none⟩ = some (.int .i64 t2) ∧ V.cell? ⟨nL, 8, none⟩ = some (.int .i64 t3) ∧ V.cell? ⟨nL, 9, none⟩ = some (.int .i64 t4) ∧ V.cell? ⟨g1, 0, none⟩ = some (.int .u8 0) ∧ V.cell? ⟨g1, 1, none⟩ = some (.int .u8 3) ∧ V.cell? ⟨g1, 2, none⟩ = some (.int .u8 (x.tk : Int)) ∧ V.cell? ⟨g1, 3, none⟩ = some (.int .u8 (x.fr : Int)) ∧ V.cell? ⟨g1, 4, none⟩ = some (.slice At x.ts.length ct) ∧ V.cell? ⟨g1, 5, none⟩ = some (.int .u16 (x.ah : Int)) ∧ V.cell? ⟨g1, 6, none⟩ = some (.bool true) ∧ V.cell? ⟨g1, 7, none⟩ = some (.int .u8 (x.mo : Int)) ∧ V.cell? ⟨nA, 2, none⟩ = some (.int .i64 5) ∧ V.cell? ⟨nA, 5, none⟩ = some (.slice AA TX.length cA) ∧ V.cell? ⟨nM, 0, none⟩ = some (.int .u8 3) ∧ V.cell? ⟨nM, 1, none⟩ = some (.int .i64 3) ∧ V.cell? ⟨nM, 2, none⟩ = some (.int .i64 6) ∧ V.cell? ⟨nM, 3, none⟩ = some (.int .i64 dY) ∧ V.cell? ⟨nM, 4, none⟩ = some (.int .i64 aY) ∧ V.cell? ⟨nM, 5, none⟩ = some (.bool y.wh) ∧ V.cell? ⟨nM, 6, none⟩ = some (.slice AM TY.length cM)) := fun V h1 h2 h3 h4 => ⟨h1.cell 0, h1.cell 1, h1.cell 2, h1.cell 3, h1.cell 4, h1.cell 5, h1.cell 6, h1.cell 7, h1.cell 8, h1.cell 9, h2.cell 0, h2.cell 1, h2.cell 2, h2.cell 3, h2.cell 4, h2.cell 5, h2.cell 6, h2.cell 7, h3.cell 2, h3.cell 5, h4.cell 0, h4.cell 1, h4.cell 2, h4.cell 3, h4.cell 4, h4.cell 5, h4.cell 6⟩
        have HFPY : Hid (fitsP L TY dY aY = true) := by show _ = _; rw [fits_eq HTM.out]; exact HFY.out
        have HMAY : Hid (mayP ⟨3, 5, 5, dX, aX, TX⟩ 9 6 = true) := by
          show _ = _
          unfold mayP
          rw [if_neg (by have := HTX2.out; show ¬ TX.length = 0; omega)]
          rfl
        have HBD : Hid (Below w12.heap.size w12 w12.drew) := (Below.refl _ _).drew
        have s0 := HSS.out w12.drew (show Row w12 nL 36 _ from HS12.out.rl) (show Row w12 g1 28 _ from HS12.out.r1) (show Row w12 nA 58 _ from HRA.out) (show Row w12 nM 42 _ from HM12.out)
        obtain ⟨r0, r1, r2, r3, r4, r5, r6, r7, r8, r9, r10, r11, r12, r13, r14, r15, r16, r17, r18, r19, r20, r21, r22, r23, r24, r25, r26⟩ := (show _ from s0)
        have hf42 := field42
        go_region_held3 (fun w' => w'.cell? ⟨nL, 0, none⟩ = some (.slice A0 k0 c0) ∧ w'.cell? ⟨nL, 1, none⟩ = some (.slice A1 k1 c1) ∧ w'.cell? ⟨nL, 2, none⟩ = some (.slice A2 k2 c2) ∧ w'.cell? ⟨nL, 3, none⟩ = some (.slice A3 k3 c3) ∧ w'.cell? ⟨nL, 4, none⟩ = some (.slice A4 k4 c4) ∧ w'.cell? ⟨nL, 5, none⟩ = some (.int .i64 t0) ∧ w'.cell? ⟨nL, 6, none⟩ = some (.int .i64 t1) ∧ w'.cell? ⟨nL, 7, none⟩ = some (.int .i64 t2) ∧ w'.cell? ⟨nL, 8, none⟩ = some (.int .i64 t3) ∧ w'.cell? ⟨nL, 9, none⟩ = some (.int .i64 t4) ∧ w'.cell? ⟨g1, 0, none⟩ = some (.int .u8 0) ∧ w'.cell? ⟨g1, 1, none⟩ = some (.int .u8 3) ∧ w'.cell? ⟨g1, 2, none⟩ = some (.int .u8 (x.tk : Int)) ∧ w'.cell? ⟨g1, 3, none⟩ = some (.int .u8 (x.fr : Int)) ∧ w'.cell? ⟨g1, 4, none⟩ = some (.slice At x.ts.length ct) ∧ w'.cell? ⟨g1, 5, none⟩ = some (.int .u16 (x.ah : Int)) ∧ w'.cell? ⟨g1, 6, none⟩ = some (.bool true) ∧ w'.cell? ⟨g1, 7, none⟩ = some (.int .u8 (x.mo : Int)) ∧ w'.cell? ⟨nA, 2, none⟩ = some (.int .i64 5) ∧ w'.cell? ⟨nA, 5, none⟩ = some (.slice AA TX.length cA) ∧ w'.cell? ⟨nM, 0, none⟩ = some (.int .u8 3) ∧ w'.cell? ⟨nM, 1, none⟩ = some (.int .i64 3) ∧ w'.cell? ⟨nM, 2, none⟩ = some (.int .i64 6) ∧ w'.cell? ⟨nM, 3, none⟩ = some (.int .i64 dY) ∧ w'.cell? ⟨nM, 4, none⟩ = some (.int .i64 aY) ∧ w'.cell? ⟨nM, 5, none⟩ = some (.bool y.wh) ∧ w'.cell? ⟨nM, 6, none⟩ = some (.slice AM TY.length cM)) (first | (with_reducible assumption) | exact s0 | go_keep) (first | (go_at_call 14; (with_reducible refine (HRX.out w12.drew HBD.out).mono ?_); rintro e w13 ⟨i13, d13, a13, A13, c13, rfl, hr13, hb13⟩; have HB13 : Hid (Below w12.heap.size w12 w13) := HBD.out.trans hb13; have HS13 := Lib.hid (HS12.out.call HB13.out); have HM13 := Lib.hid (Below.row HB13.out HM12.out HM12.out.lt); have HA13 := Lib.hid (Below.row HB13.out HRA.out HRA.out.lt); have HTA13 := Lib.hid (HA12.out.up HB13.out); have HTY13 := Lib.hid (HT12.out.up HB13.out); have HTP13 := Lib.hid hr13; have d13s := HSS.out w13 HS13.out.rl HS13.out.r1 HA13.out HM13.out; clear hr13 hb13) | (go_at_call 20; refine (ints_any w13 w13.heap.size _ _ TX TX HTA13.out HTP13.out (by have := HTX2.out; omega)).mono ?_; rintro e w14 ⟨rfl, k14, rfl⟩; rw [show decide (TX = TX) = true from decide_eq_true rfl]; have HB14 : Hid (Below w13.heap.size w13 (w13.drewN k14)) := Below.drewN (Below.refl _ _) _; have HS14 := Lib.hid (HS13.out.call HB14.out); have HM14 := Lib.hid (Below.row HB14.out HM13.out HM13.out.lt); have HA14 := Lib.hid (Below.row HB14.out HA13.out HA13.out.lt); have HTA14 := Lib.hid (HTA13.out.up HB14.out); have HTY14 := Lib.hid (HTY13.out.up HB14.out); have d14s := HSS.out _ HS14.out.rl HS14.out.r1 HA14.out HM14.out) | (go_at_call 24; refine (note_ok (w13.drewN k14) rb mb 2 _ HS14.out.reg B vg L 9 3 6 dY aY y.wh AM cM TY (.slice AA TX.length cA) ⟨3, 5, 5, dX, aX, TX⟩ (wf_in (by decide) (by decide)) (by simp [upd]) HS14.out.gr HS14.out.sw HFT.out HTY14.out (by have := HTY2.out; omega) HFPY.out HMAY.out (by omega) TX HTA14.out (by have := HTX2.out; omega) HTY2.out.2.2 HTX2.out.2.2 rfl).mono ?_; rintro e w15 ⟨rfl, hr15, hk15⟩; have HS15 := Lib.hid (HS14.out.turn hk15 hr15); have HM15 := Lib.hid (hk15.row HM14.out (by simpa using HNM.out)); have HA15 := Lib.hid (hk15.row HA14.out (by simpa using HNA.out)); have HTA15 := Lib.hid (HS14.out.kept HTA14.out hk15); have HTY15 := Lib.hid (HS14.out.kept HTY14.out hk15); have d15s := HSS.out w15 HS15.out.rl HS15.out.r1 HA15.out HM15.out; clear hr15 hk15))
        clear r0 r1 r2 r3 r4 r5 r6 r7 r8 r9 r10 r11 r12 r13 r14 r15 r16 r17 r18 r19 r20 r21 r22 r23 r24 r25 r26 s0 d13s d14s d15s HRX HBD HSS HB13 HS13 HM13 HA13 HTA13 HTY13 HTP13 HB14 HS14 HM14 HA14 HTA14 HTY14 HS12 HT12 HM12 HA12 HRA HFPY HMAY hf42
        obtain ⟨su, hsu⟩ : ∃ s : Int, (if y.wh = true then 6 else 5) = s := ⟨_, rfl⟩
        obtain ⟨U, hU⟩ : ∃ U, (if y.wh = true then TY else joinL TY TX) = U := ⟨_, rfl⟩
        rw [hsu, hU] at HS15
        have HSU := Lib.hid hsu; have HU := Lib.hid hU
        have hUl : U.length ≤ 10000 := by
          rw [← hU]
          have h1 := HTX2.out; have h2 := HTY2.out; have h3 := joinL_le TY TX
          split <;> omega
        have HUL := Lib.hid hUl
        clear hsu hU hUl
        have HGE := Lib.hid (get_some w15 rb mb _ _ HS15.out.reg 3 (wf_in (by decide) (by decide)) ⟨3, 6, su, dY, aY, U⟩ (by simp [upd]) (by have := HUL.out; show U.length ≤ _; omega))
        go_wp2_with fail
        refine HGE.out.mono ?_; rintro e w16 ⟨vB, rfl, ho16, hb16⟩
        obtain ⟨AB, cB, hvB⟩ := own_slice ho16
        subst hvB
        simp only at ho16 ⊢
        have hba := (hb16.alloc hb16.size (.cells (tcells 3 6 su dY aY (.slice AB U.length cB)) 58))
        have HB16 : Hid (Below w.heap.size w (w16.alloc (.cells (tcells 3 6 su dY aY (.slice AB U.length cB)) 58))) := HS15.out.bel.trans (hba.mono (Nat.le_trans HS15.out.s0 HS15.out.sw))
        have HM16 := Lib.hid (Below.row hba HM15.out HM15.out.lt)
        have HA16 := Lib.hid (Below.row hba HA15.out HA15.out.lt)
        have HTA16 := Lib.hid (HTA15.out.up hba)
        have HTY16 := Lib.hid (HTY15.out.up hba)
        have HUB16 := Lib.hid ((Rd.of_own ho16).up ((Below.refl w16.heap.size w16).alloc (Nat.le_refl _) (.cells (tcells 3 6 su dY aY (.slice AB U.length cB)) 58)))
        have HRB16 := Lib.hid (Row.new w16 58 (tcells 3 6 su dY aY (.slice AB U.length cB)))
        clear hba ho16 hb16 HS15 HM15 HA15 HTA15 HTY15 HGE
        go_upto_region 13 with (fail)
        obtain ⟨nB, hnB⟩ : ∃ n, w16.heap.size = n := ⟨_, rfl⟩
        rw [hnB] at HRB16 ⊢
        clear hnB
        generalize w16.alloc (.cells (tcells 3 6 su dY aY (.slice AB U.length cB)) 58) = w17 at *
        have m5 := HM16.out.cell 5; have m6 := HM16.out.cell 6; have b1 := HRB16.out.cell 1; have b2 := HRB16.out.cell 2; have b5 := HRB16.out.cell 5; have a5 := HA16.out.cell 5
        simp only [List.getElem?_toArray, List.getElem?_cons_zero, List.getElem?_cons_succ] at m5 m6 b1 b2 b5 a5
        cases hyw : y.wh with
        | true =>
          rw [hyw] at m5
          have hs1 : su = 6 := by rw [← HSU.out, hyw]; rfl
          have hu1 : U = TY := by rw [← HU.out, hyw]; rfl
          subst hs1 hu1
          clear hyw
          go_wp2_with fail
          refine (ints_any w17 w17.heap.size _ _ U U HUB16.out HTY16.out (by have := HUL.out; omega)).mono ?_; rintro e w18 ⟨rfl, k18, rfl⟩
          rw [show decide (U = U) = true from decide_eq_true rfl]
          have HBZ : Hid (Below w.heap.size w (w17.drewN k18)) := Below.drewN HB16.out _
          go_wp2_with fail
          go_ret
          exact ⟨rfl, HBZ.out⟩
        | false =>
          rw [hyw] at m5
          have hs1 : su = 5 := by rw [← HSU.out, hyw]; rfl
          have hu1 : U = joinL TY TX := by rw [← HU.out, hyw]; rfl
          subst hs1
          have HUE := Lib.hid hu1
          clear hyw hu1
          go_upto_region 15 with (fail)
          have HSS : Hid (∀ V, Row V nB 58 (tcells 3 6 5 dY aY (.slice AB U.length cB)) → Row V nM 42 (mcellsR 3 3 6 dY aY y.wh (.slice AM TY.length cM)) → Row V nA 58 (tcells 3 5 5 dX aX (.slice AA TX.length cA)) → V.cell? ⟨nB, 1, none⟩ = some (.int .i64 6) ∧ V.cell? ⟨nB, 2, none⟩ = some (.int .i64 5) ∧ V.cell? ⟨nB, 5, none⟩ = some (.slice AB U.length cB) ∧ V.cell? ⟨nM, 6, none⟩ = some (.slice AM TY.length cM) ∧ V.cell? ⟨nA, 5, none⟩ = some (.slice AA TX.length cA)) := fun V h1 h2 h3 => ⟨h1.cell 1, h1.cell 2, h1.cell 5, h2.cell 6, h3.cell 5⟩
          have s0 := HSS.out w17.drew (show Row w17 nB 58 _ from HRB16.out) (show Row w17 nM 42 _ from HM16.out) (show Row w17 nA 58 _ from HA16.out)
          obtain ⟨o1, o2, o3, o4, o5⟩ := (show _ from s0)
          have HJN := Lib.hid (refJoin_any w17.drew (.slice AM TY.length cM) (.slice AA TX.length cA) TY TX (HTY16.out.mono (Nat.le_refl _) (fun _ _ => rfl)) (HTA16.out.mono (Nat.le_refl _) (fun _ _ => rfl)) (by have := HTX2.out; omega) (by have := HTY2.out; omega))
          have HBD : Hid (Below w17.heap.size w17 w17.drew) := (Below.refl _ _).drew
          clear m5 m6 b1 b2 b5 a5
          go_region_held3 (fun w' => w'.cell? ⟨nB, 1, none⟩ = some (.int .i64 6) ∧ w'.cell? ⟨nB, 2, none⟩ = some (.int .i64 5) ∧ w'.cell? ⟨nB, 5, none⟩ = some (.slice AB U.length cB) ∧ w'.cell? ⟨nM, 6, none⟩ = some (.slice AM TY.length cM) ∧ w'.cell? ⟨nA, 5, none⟩ = some (.slice AA TX.length cA)) (first | (with_reducible assumption) | exact s0 | go_keep) (first | (go_at_call 21; (with_reducible refine HJN.out.mono ?_); rintro e w18 ⟨vJ, rfl, ho18, hb18⟩; obtain ⟨AJ, cJ, hvJ⟩ := own_slice ho18; subst hvJ; have HB18 : Hid (Below w17.heap.size w17 w18) := HBD.out.trans hb18; have HRJ := Lib.hid (Rd.of_own ho18); have HU18 := Lib.hid (HUB16.out.up HB18.out); have d18 := HSS.out w18 (Below.row HB18.out HRB16.out HRB16.out.lt) (Below.row HB18.out HM16.out HM16.out.lt) (Below.row HB18.out HA16.out HA16.out.lt); clear ho18 hb18) | (go_at_call 20; refine (ints_any w18 w18.heap.size _ _ U (joinL TY TX) HU18.out HRJ.out (by have := HUL.out; omega)).mono ?_; rintro e w19 ⟨rfl, k19, rfl⟩; rw [show decide (U = joinL TY TX) = true from decide_eq_true HUE.out]; have HB19 : Hid (Below w18.heap.size w18 (w18.drewN k19)) := Below.drewN (Below.refl _ _) _; have d19 := HSS.out _ (Below.row HB19.out (Below.row HB18.out HRB16.out HRB16.out.lt) (Below.row HB18.out HRB16.out HRB16.out.lt).lt) (Below.row HB19.out (Below.row HB18.out HM16.out HM16.out.lt) (Below.row HB18.out HM16.out HM16.out.lt).lt) (Below.row HB19.out (Below.row HB18.out HA16.out HA16.out.lt) (Below.row HB18.out HA16.out HA16.out.lt).lt)))
          have HBZ : Hid (Below w.heap.size w (w18.drewN k19)) := HB16.out.trans (Below.drewN (HB18.out.mono HB16.out.size) _)
          clear s0 d18 d19 o1 o2 o3 o4 o5
          go_wp2_with fail
          go_ret
          exact ⟨rfl, HBZ.out⟩
      · have h13i : (12 : Int) < (y.ts.length : Int) := by omega
        have h13n : 12 < y.ts.length := by omega
        go_enter Try.func9, Try.ntmps9
        go_upto_region 1 with (fail)
        obtain ⟨g0, hg0⟩ : ∃ n, w.heap.size = n := ⟨_, rfl⟩
        obtain ⟨g1, hg1⟩ : ∃ n, g0 + 1 = n := ⟨_, rfl⟩
        obtain ⟨g2, hg2⟩ : ∃ n, g1 + 1 = n := ⟨_, rfl⟩
        rw [hg0] at HRW HRX HRY ⊢
        rw [hg1] at HRX HRY ⊢
        rw [hg2] at HRY ⊢
        have HG0 : Hid (w.heap.size = g0 ∧ g0 + 1 = g1 ∧ g1 + 1 = g2) := ⟨hg0, hg1, hg2⟩
        clear hg0 hg1 hg2
        generalize ((w.alloc (.cells #[.int .u8 (d0.form : Int), .int .u8 (d0.len : Int), .int .u8 (d0.speed : Int), .int .u16 (d0.mute : Int), .int .u16 (d0.wait : Int), .int .u8 (d0.cancel : Int), .int .u8 (d0.stay : Int), .int .u8 (d0.join : Int), .slice Ar kr cr] 25)).alloc (.cells #[.int .u8 (x.do_ : Int), .int .u8 (x.id : Int), .int .u8 (x.tk : Int), .int .u8 (x.fr : Int), .slice At x.ts.length ct, .int .u16 (x.ah : Int), .bool x.wh, .int .u8 (x.mo : Int)] 28)).alloc (.cells #[.int .u8 (y.do_ : Int), .int .u8 (y.id : Int), .int .u8 (y.tk : Int), .int .u8 (y.fr : Int), .slice As y.ts.length cs, .int .u16 (y.ah : Int), .bool y.wh, .int .u8 (y.mo : Int)] 28) = W0 at *
        go_wp2_with fail
        refine (nothing_any _).mono ?_; rintro e wA ⟨rfl, hbA⟩
        have HA := Lib.hid (HB0.out.trans (hbA.mono HB0.out.size))
        have HRA := Lib.hid (Below.row hbA HRW.out HRW.out.lt)
        have HXA := Lib.hid (Below.row hbA HRX.out HRX.out.lt)
        have HYA := Lib.hid (Below.row hbA HRY.out HRY.out.lt)
        clear hbA HB0 HRW HRX HRY
        have f0 := HRA.out.cell 0; have f1 := HRA.out.cell 1; have f2 := HRA.out.cell 2; have f3 := HRA.out.cell 3; have f4 := HRA.out.cell 4; have f5 := HRA.out.cell 5; have f6 := HRA.out.cell 6; have f7 := HRA.out.cell 7; have f8 := HRA.out.cell 8
        simp only [List.getElem?_toArray, List.getElem?_cons_zero, List.getElem?_cons_succ] at f0 f1 f2 f3 f4 f5 f6 f7 f8
        go_wp2_with fail
        refine (small_any wA d0 (.slice Ar kr cr) (HBR.out.up HA.out) HL.out.1 HL.out.2).mono ?_; rintro e wB ⟨rfl, hbB⟩
        clear f0 f1 f2 f3 f4 f5 f6 f7 f8
        rw [hs]
        have HB := Lib.hid (HA.out.trans (hbB.mono HA.out.size))
        have HRB := Lib.hid (Below.row hbB HRA.out HRA.out.lt)
        have HXB := Lib.hid (Below.row hbB HXA.out HXA.out.lt)
        have HYB := Lib.hid (Below.row hbB HYA.out HYA.out.lt)
        clear hbB HA HRA HXA HYA
        have x4 := HXB.out.cell 4; have y4 := HYB.out.cell 4
        simp only [List.getElem?_toArray, List.getElem?_cons_zero, List.getElem?_cons_succ] at x4 y4
        go_wp2_with fail
        refine (nothing_any _).mono ?_; rintro e wZ ⟨rfl, hbZ⟩
        have HZ := Lib.hid (HB.out.trans (hbZ.mono HB.out.size))
        clear hbZ
        go_wp2_with fail
        go_ret
        exact ⟨rfl, HZ.out⟩
    · have h12i : (12 : Int) < (x.ts.length : Int) := by omega
      have h12n : 12 < x.ts.length := by omega
      go_enter Try.func9, Try.ntmps9
      go_upto_region 1 with (fail)
      obtain ⟨g0, hg0⟩ : ∃ n, w.heap.size = n := ⟨_, rfl⟩
      obtain ⟨g1, hg1⟩ : ∃ n, g0 + 1 = n := ⟨_, rfl⟩
      obtain ⟨g2, hg2⟩ : ∃ n, g1 + 1 = n := ⟨_, rfl⟩
      rw [hg0] at HRW HRX HRY ⊢
      rw [hg1] at HRX HRY ⊢
      rw [hg2] at HRY ⊢
      have HG0 : Hid (w.heap.size = g0 ∧ g0 + 1 = g1 ∧ g1 + 1 = g2) := ⟨hg0, hg1, hg2⟩
      clear hg0 hg1 hg2
      generalize ((w.alloc (.cells #[.int .u8 (d0.form : Int), .int .u8 (d0.len : Int), .int .u8 (d0.speed : Int), .int .u16 (d0.mute : Int), .int .u16 (d0.wait : Int), .int .u8 (d0.cancel : Int), .int .u8 (d0.stay : Int), .int .u8 (d0.join : Int), .slice Ar kr cr] 25)).alloc (.cells #[.int .u8 (x.do_ : Int), .int .u8 (x.id : Int), .int .u8 (x.tk : Int), .int .u8 (x.fr : Int), .slice At x.ts.length ct, .int .u16 (x.ah : Int), .bool x.wh, .int .u8 (x.mo : Int)] 28)).alloc (.cells #[.int .u8 (y.do_ : Int), .int .u8 (y.id : Int), .int .u8 (y.tk : Int), .int .u8 (y.fr : Int), .slice As y.ts.length cs, .int .u16 (y.ah : Int), .bool y.wh, .int .u8 (y.mo : Int)] 28) = W0 at *
      go_wp2_with fail
      refine (nothing_any _).mono ?_; rintro e wA ⟨rfl, hbA⟩
      have HA := Lib.hid (HB0.out.trans (hbA.mono HB0.out.size))
      have HRA := Lib.hid (Below.row hbA HRW.out HRW.out.lt)
      have HXA := Lib.hid (Below.row hbA HRX.out HRX.out.lt)
      have HYA := Lib.hid (Below.row hbA HRY.out HRY.out.lt)
      clear hbA HB0 HRW HRX HRY
      have f0 := HRA.out.cell 0; have f1 := HRA.out.cell 1; have f2 := HRA.out.cell 2; have f3 := HRA.out.cell 3; have f4 := HRA.out.cell 4; have f5 := HRA.out.cell 5; have f6 := HRA.out.cell 6; have f7 := HRA.out.cell 7; have f8 := HRA.out.cell 8
      simp only [List.getElem?_toArray, List.getElem?_cons_zero, List.getElem?_cons_succ] at f0 f1 f2 f3 f4 f5 f6 f7 f8
      go_wp2_with fail
      refine (small_any wA d0 (.slice Ar kr cr) (HBR.out.up HA.out) HL.out.1 HL.out.2).mono ?_; rintro e wB ⟨rfl, hbB⟩
      clear f0 f1 f2 f3 f4 f5 f6 f7 f8
      rw [hs]
      have HB := Lib.hid (HA.out.trans (hbB.mono HA.out.size))
      have HRB := Lib.hid (Below.row hbB HRA.out HRA.out.lt)
      have HXB := Lib.hid (Below.row hbB HXA.out HXA.out.lt)
      have HYB := Lib.hid (Below.row hbB HYA.out HYA.out.lt)
      clear hbB HA HRA HXA HYA
      have x4 := HXB.out.cell 4; have y4 := HYB.out.cell 4
      simp only [List.getElem?_toArray, List.getElem?_cons_zero, List.getElem?_cons_succ] at x4 y4
      go_wp2_with fail
      refine (nothing_any _).mono ?_; rintro e wZ ⟨rfl, hbZ⟩
      have HZ := Lib.hid (HB.out.trans (hbZ.mono HB.out.size))
      clear hbZ
      go_wp2_with fail
      go_ret
      exact ⟨rfl, HZ.out⟩

end Go.Proofs.Ytifcgkpannlnnaa
