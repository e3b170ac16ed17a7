/- The law TrainStale. -/
import Derived.Test.YtifcgkpannlnnaaF16
import Derived.Test.YtifcgkpannlnnaaFull
import Derived.Test.YtifcgkpannlnnaaJ4
namespace Go.Proofs.Ytifcgkpannlnnaa
open Go.RowKit Fl Go.Maps
set_option maxRecDepth 100000

theorem field42 (a b c d e : Int) (f : Bool) (A : Option Addr) (k cc : Nat) (w : World) : (Instr.field 42 (.agg #[.int .u8 a, .int .i64 b, .int .i64 c, .int .i64 d, .int .i64 e, .bool f, .slice A k cc]) 6).run Try.prog w = .ok (.slice A k cc) w := by kernel_rfl

set_option maxHeartbeats 16000000 in
theorem lawStale (w : World) (d0 : Dr) (vr : Value) (x y : Ax) (vt vs : Value) (now : Nat) (hnow : now < 65536) (hd : DrOk d0) (hbr : BRows w w.heap.size vr d0.routes) (hl : d0.routes.length ≤ 9223372036854775807) (hrl : ∀ r ∈ d0.routes, r.length ≤ 9223372036854775807)
    (hx : AxOk x) (ht : Rd w w.heap.size vt (bvals x.ts)) (htl : x.ts.length ≤ 9223372036854775807) (hy : AxOk y) (ht2 : Rd w w.heap.size vs (bvals y.ts)) (htl2 : y.ts.length ≤ 9223372036854775807) :
    Calls Try.prog 5 #[drV d0 vr, axV x vt, axV y vs, .int .u16 (now : Int)] w (RetL true w) := by
  obtain ⟨Ar, kr, cr, hvr⟩ : ∃ A k c, vr = .slice A k c := by obtain ⟨vs, ⟨A, c, e, _⟩, _⟩ := hbr; exact ⟨A, _, c, e⟩
  subst hvr
  obtain ⟨At, ct, hvt⟩ : ∃ A c, vt = .slice A x.ts.length c := by obtain ⟨A, c, e, _⟩ := ht; exact ⟨A, c, by rw [e, bvals_length]⟩
  subst hvt
  obtain ⟨As, cs, hvs⟩ : ∃ A c, vs = .slice A y.ts.length c := by obtain ⟨A, c, e, _⟩ := ht2; exact ⟨A, c, by rw [e, bvals_length]⟩
  subst hvs
  have HDK := Lib.hid hd
  have HL : Hid (d0.routes.length ≤ 9223372036854775807 ∧ ∀ r ∈ d0.routes, r.length ≤ 9223372036854775807) := ⟨hl, hrl⟩
  have HAX := Lib.hid hx; have HAY := Lib.hid hy
  have HBR := Lib.hid hbr
  have HT := Lib.hid ht; have HT2 := Lib.hid ht2
  clear hd hl hrl hbr hx ht hy ht2
  have HB0 := Lib.hid ((below2 w (.cells #[.int .u8 (d0.form : Int), .int .u8 (d0.len : Int), .int .u8 (d0.speed : Int), .int .u16 (d0.mute : Int), .int .u16 (d0.wait : Int), .int .u8 (d0.cancel : Int), .int .u8 (d0.stay : Int), .int .u8 (d0.join : Int), .slice Ar kr cr] 25) (.cells #[.int .u8 (x.do_ : Int), .int .u8 (x.id : Int), .int .u8 (x.tk : Int), .int .u8 (x.fr : Int), .slice At x.ts.length ct, .int .u16 (x.ah : Int), .bool x.wh, .int .u8 (x.mo : Int)] 28)).alloc (by simp; omega) (.cells #[.int .u8 (y.do_ : Int), .int .u8 (y.id : Int), .int .u8 (y.tk : Int), .int .u8 (y.fr : Int), .slice As y.ts.length cs, .int .u16 (y.ah : Int), .bool y.wh, .int .u8 (y.mo : Int)] 28))
  have HRW := Lib.hid (((Row.new w 25 #[.int .u8 (d0.form : Int), .int .u8 (d0.len : Int), .int .u8 (d0.speed : Int), .int .u16 (d0.mute : Int), .int .u16 (d0.wait : Int), .int .u8 (d0.cancel : Int), .int .u8 (d0.stay : Int), .int .u8 (d0.join : Int), .slice Ar kr cr]).alloc (.cells #[.int .u8 (x.do_ : Int), .int .u8 (x.id : Int), .int .u8 (x.tk : Int), .int .u8 (x.fr : Int), .slice At x.ts.length ct, .int .u16 (x.ah : Int), .bool x.wh, .int .u8 (x.mo : Int)] 28)).alloc (.cells #[.int .u8 (y.do_ : Int), .int .u8 (y.id : Int), .int .u8 (y.tk : Int), .int .u8 (y.fr : Int), .slice As y.ts.length cs, .int .u16 (y.ah : Int), .bool y.wh, .int .u8 (y.mo : Int)] 28))
  have hr1 := (Row.new (w.alloc (.cells #[.int .u8 (d0.form : Int), .int .u8 (d0.len : Int), .int .u8 (d0.speed : Int), .int .u16 (d0.mute : Int), .int .u16 (d0.wait : Int), .int .u8 (d0.cancel : Int), .int .u8 (d0.stay : Int), .int .u8 (d0.join : Int), .slice Ar kr cr] 25)) 28 #[.int .u8 (x.do_ : Int), .int .u8 (x.id : Int), .int .u8 (x.tk : Int), .int .u8 (x.fr : Int), .slice At x.ts.length ct, .int .u16 (x.ah : Int), .bool x.wh, .int .u8 (x.mo : Int)]).alloc (.cells #[.int .u8 (y.do_ : Int), .int .u8 (y.id : Int), .int .u8 (y.tk : Int), .int .u8 (y.fr : Int), .slice As y.ts.length cs, .int .u16 (y.ah : Int), .bool y.wh, .int .u8 (y.mo : Int)] 28)
  rw [World.size_alloc] at hr1
  have HRX := Lib.hid hr1
  have hr2 := Row.new ((w.alloc (.cells #[.int .u8 (d0.form : Int), .int .u8 (d0.len : Int), .int .u8 (d0.speed : Int), .int .u16 (d0.mute : Int), .int .u16 (d0.wait : Int), .int .u8 (d0.cancel : Int), .int .u8 (d0.stay : Int), .int .u8 (d0.join : Int), .slice Ar kr cr] 25)).alloc (.cells #[.int .u8 (x.do_ : Int), .int .u8 (x.id : Int), .int .u8 (x.tk : Int), .int .u8 (x.fr : Int), .slice At x.ts.length ct, .int .u16 (x.ah : Int), .bool x.wh, .int .u8 (x.mo : Int)] 28)) 28 #[.int .u8 (y.do_ : Int), .int .u8 (y.id : Int), .int .u8 (y.tk : Int), .int .u8 (y.fr : Int), .slice As y.ts.length cs, .int .u16 (y.ah : Int), .bool y.wh, .int .u8 (y.mo : Int)]
  rw [World.size_alloc, World.size_alloc] at hr2
  have HRY := Lib.hid hr2
  clear hr1 hr2
  unfold drV axV
  cases hs : small d0 with
  | false =>
    go_enter Try.func5, Try.ntmps5
    go_upto_region 1 with (fail)
    obtain ⟨g0, hg0⟩ : ∃ n, w.heap.size = n := ⟨_, rfl⟩
    obtain ⟨g1, hg1⟩ : ∃ n, g0 + 1 = n := ⟨_, rfl⟩
    obtain ⟨g2, hg2⟩ : ∃ n, g1 + 1 = n := ⟨_, rfl⟩
    rw [hg0] at HRW HRX HRY ⊢
    rw [hg1] at HRX HRY ⊢
    rw [hg2] at HRY ⊢
    have HG0 : Hid (w.heap.size = g0 ∧ g0 + 1 = g1 ∧ g1 + 1 = g2) := ⟨hg0, hg1, hg2⟩
    clear hg0 hg1 hg2
    generalize ((w.alloc (.cells #[.int .u8 (d0.form : Int), .int .u8 (d0.len : Int), .int .u8 (d0.speed : Int), .int .u16 (d0.mute : Int), .int .u16 (d0.wait : Int), .int .u8 (d0.cancel : Int), .int .u8 (d0.stay : Int), .int .u8 (d0.join : Int), .slice Ar kr cr] 25)).alloc (.cells #[.int .u8 (x.do_ : Int), .int .u8 (x.id : Int), .int .u8 (x.tk : Int), .int .u8 (x.fr : Int), .slice At x.ts.length ct, .int .u16 (x.ah : Int), .bool x.wh, .int .u8 (x.mo : Int)] 28)).alloc (.cells #[.int .u8 (y.do_ : Int), .int .u8 (y.id : Int), .int .u8 (y.tk : Int), .int .u8 (y.fr : Int), .slice As y.ts.length cs, .int .u16 (y.ah : Int), .bool y.wh, .int .u8 (y.mo : Int)] 28) = W0 at *
    go_wp2_with fail
    refine (nothing_any _).mono ?_; rintro e wA ⟨rfl, hbA⟩
    have HA := Lib.hid (HB0.out.trans (hbA.mono HB0.out.size))
    have HRA := Lib.hid (Below.row hbA HRW.out HRW.out.lt)
    have HXA := Lib.hid (Below.row hbA HRX.out HRX.out.lt)
    have HYA := Lib.hid (Below.row hbA HRY.out HRY.out.lt)
    clear hbA HB0 HRW HRX HRY
    have f0 := HRA.out.cell 0; have f1 := HRA.out.cell 1; have f2 := HRA.out.cell 2; have f3 := HRA.out.cell 3; have f4 := HRA.out.cell 4; have f5 := HRA.out.cell 5; have f6 := HRA.out.cell 6; have f7 := HRA.out.cell 7; have f8 := HRA.out.cell 8
    simp only [List.getElem?_toArray, List.getElem?_cons_zero, List.getElem?_cons_succ] at f0 f1 f2 f3 f4 f5 f6 f7 f8
    go_wp2_with fail
    refine (small_any wA d0 (.slice Ar kr cr) (HBR.out.up HA.out) HL.out.1 HL.out.2).mono ?_; rintro e wB ⟨rfl, hbB⟩
    clear f0 f1 f2 f3 f4 f5 f6 f7 f8
    rw [hs]
    have HB := Lib.hid (HA.out.trans (hbB.mono HA.out.size))
    have HRB := Lib.hid (Below.row hbB HRA.out HRA.out.lt)
    have HXB := Lib.hid (Below.row hbB HXA.out HXA.out.lt)
    have HYB := Lib.hid (Below.row hbB HYA.out HYA.out.lt)
    clear hbB HA HRA HXA HYA
    have x4 := HXB.out.cell 4; have y4 := HYB.out.cell 4
    simp only [List.getElem?_toArray, List.getElem?_cons_zero, List.getElem?_cons_succ] at x4 y4
    go_wp2_with fail
    refine (nothing_any _).mono ?_; rintro e wZ ⟨rfl, hbZ⟩
    have HZ := Lib.hid (HB.out.trans (hbZ.mono HB.out.size))
    clear hbZ
    go_wp2_with fail
    go_ret
    exact ⟨rfl, HZ.out⟩
  | true =>
    by_cases h12 : x.ts.length ≤ 12
    · have h12i : ¬ (12 : Int) < (x.ts.length : Int) := by omega
      have h12n : ¬ 12 < x.ts.length := by omega
      by_cases h13 : y.ts.length ≤ 12
      · have h13i : ¬ (12 : Int) < (y.ts.length : Int) := by omega
        have h13n : ¬ 12 < y.ts.length := by omega
        go_enter Try.func5, Try.ntmps5
        go_upto_region 1 with (fail)
        obtain ⟨g0, hg0⟩ : ∃ n, w.heap.size = n := ⟨_, rfl⟩
        obtain ⟨g1, hg1⟩ : ∃ n, g0 + 1 = n := ⟨_, rfl⟩
        obtain ⟨g2, hg2⟩ : ∃ n, g1 + 1 = n := ⟨_, rfl⟩
        rw [hg0] at HRW HRX HRY ⊢
        rw [hg1] at HRX HRY ⊢
        rw [hg2] at HRY ⊢
        have HG0 : Hid (w.heap.size = g0 ∧ g0 + 1 = g1 ∧ g1 + 1 = g2) := ⟨hg0, hg1, hg2⟩
        clear hg0 hg1 hg2
        generalize ((w.alloc (.cells #[.int .u8 (d0.form : Int), .int .u8 (d0.len : Int), .int .u8 (d0.speed : Int), .int .u16 (d0.mute : Int), .int .u16 (d0.wait : Int), .int .u8 (d0.cancel : Int), .int .u8 (d0.stay : Int), .int .u8 (d0.join : Int), .slice Ar kr cr] 25)).alloc (.cells #[.int .u8 (x.do_ : Int), .int .u8 (x.id : Int), .int .u8 (x.tk : Int), .int .u8 (x.fr : Int), .slice At x.ts.length ct, .int .u16 (x.ah : Int), .bool x.wh, .int .u8 (x.mo : Int)] 28)).alloc (.cells #[.int .u8 (y.do_ : Int), .int .u8 (y.id : Int), .int .u8 (y.tk : Int), .int .u8 (y.fr : Int), .slice As y.ts.length cs, .int .u16 (y.ah : Int), .bool y.wh, .int .u8 (y.mo : Int)] 28) = W0 at *
        go_wp2_with fail
        refine (nothing_any _).mono ?_; rintro e wA ⟨rfl, hbA⟩
        have HA := Lib.hid (HB0.out.trans (hbA.mono HB0.out.size))
        have HRA := Lib.hid (Below.row hbA HRW.out HRW.out.lt)
        have HXA := Lib.hid (Below.row hbA HRX.out HRX.out.lt)
        have HYA := Lib.hid (Below.row hbA HRY.out HRY.out.lt)
        clear hbA HB0 HRW HRX HRY
        have f0 := HRA.out.cell 0; have f1 := HRA.out.cell 1; have f2 := HRA.out.cell 2; have f3 := HRA.out.cell 3; have f4 := HRA.out.cell 4; have f5 := HRA.out.cell 5; have f6 := HRA.out.cell 6; have f7 := HRA.out.cell 7; have f8 := HRA.out.cell 8
        simp only [List.getElem?_toArray, List.getElem?_cons_zero, List.getElem?_cons_succ] at f0 f1 f2 f3 f4 f5 f6 f7 f8
        go_wp2_with fail
        refine (small_any wA d0 (.slice Ar kr cr) (HBR.out.up HA.out) HL.out.1 HL.out.2).mono ?_; rintro e wB ⟨rfl, hbB⟩
        clear f0 f1 f2 f3 f4 f5 f6 f7 f8
        rw [hs]
        have HB := Lib.hid (HA.out.trans (hbB.mono HA.out.size))
        have HRB := Lib.hid (Below.row hbB HRA.out HRA.out.lt)
        have HXB := Lib.hid (Below.row hbB HXA.out HXA.out.lt)
        have HYB := Lib.hid (Below.row hbB HYA.out HYA.out.lt)
        clear hbB HA HRA HXA HYA
        have x4 := HXB.out.cell 4; have y4 := HYB.out.cell 4
        simp only [List.getElem?_toArray, List.getElem?_cons_zero, List.getElem?_cons_succ] at x4 y4
        have f0 := HRB.out.cell 0; have f1 := HRB.out.cell 1; have f2 := HRB.out.cell 2; have f3 := HRB.out.cell 3; have f4 := HRB.out.cell 4; have f5 := HRB.out.cell 5; have f6 := HRB.out.cell 6; have f7 := HRB.out.cell 7; have f8 := HRB.out.cell 8
        simp only [List.getElem?_toArray, List.getElem?_cons_zero, List.getElem?_cons_succ] at f0 f1 f2 f3 f4 f5 f6 f7 f8
        go_wp2_with fail
        refine (full_any wB d0 (.slice Ar kr cr) HDK.out (HBR.out.up HB.out) hs).mono ?_; rintro e wC ⟨vL, rfl, hvL, hbL⟩
        clear f0 f1 f2 f3 f4 f5 f6 f7 f8
        have HC := Lib.hid (HB.out.trans (hbL.mono HB.out.size))
        have HXC := Lib.hid (Below.row hbL HXB.out HXB.out.lt)
        have HYC := Lib.hid (Below.row hbL HYB.out HYB.out.lt)
        clear hbL HB HRB HXB HYB x4 y4
        have HFT : Hid (Fits (fullL d0)) := fullL_fits d0
        have HTM : Hid (Tame (fullL d0)) := tame_full d0
        have HSE := Lib.hid (full_secs d0)
        generalize fullL d0 = L at *
        have HVL := Lib.hid hvL
        obtain ⟨A0, k0, c0, A1, k1, c1, A2, k2, c2, A3, k3, c3, A4, k4, c4, t0, t1, t2, t3, t4, hv, -, -, -, -⟩ := hvL.lens
        subst hv
        clear hvL
        have hb2 := (Below.refl wC.heap.size wC).alloc (Nat.le_refl _) (.cells #[.slice A0 k0 c0, .slice A1 k1 c1, .slice A2 k2 c2, .slice A3 k3 c3, .slice A4 k4 c4, .int .i64 t0, .int .i64 t1, .int .i64 t2, .int .i64 t3, .int .i64 t4] 36)
        have HD := Lib.hid (HC.out.trans (hb2.mono HC.out.size))
        have HV2 := Lib.hid (HVL.out.up hb2)
        have HR2 := Lib.hid (Row.new wC 36 #[.slice A0 k0 c0, .slice A1 k1 c1, .slice A2 k2 c2, .slice A3 k3 c3, .slice A4 k4 c4, .int .i64 t0, .int .i64 t1, .int .i64 t2, .int .i64 t3, .int .i64 t4])
        have HX2 := Lib.hid (Below.row hb2 HXC.out HXC.out.lt)
        have HY2 := Lib.hid (Below.row hb2 HYC.out HYC.out.lt)
        clear hb2 HC HVL HXC HYC
        go_upto_region 4 with (fail)
        obtain ⟨nL, hnL⟩ : ∃ n, wC.heap.size = n := ⟨_, rfl⟩
        rw [hnL] at HR2 ⊢
        clear hnL
        generalize wC.alloc (.cells #[.slice A0 k0 c0, .slice A1 k1 c1, .slice A2 k2 c2, .slice A3 k3 c3, .slice A4 k4 c4, .int .i64 t0, .int .i64 t1, .int .i64 t2, .int .i64 t3, .int .i64 t4] 36) = wD at *
        have p0 := HR2.out.cell 0; have p1 := HR2.out.cell 1; have p2 := HR2.out.cell 2; have p3 := HR2.out.cell 3; have p4 := HR2.out.cell 4; have p5 := HR2.out.cell 5; have p6 := HR2.out.cell 6; have p7 := HR2.out.cell 7; have p8 := HR2.out.cell 8; have p9 := HR2.out.cell 9
        simp only [List.getElem?_toArray, List.getElem?_cons_zero, List.getElem?_cons_succ] at p0 p1 p2 p3 p4 p5 p6 p7 p8 p9
        go_wp2_with fail
        refine (new_any wD _ L HV2.out HFT.out).mono ?_; rintro e wE ⟨vg, rfl, hg, hbE⟩
        clear p0 p1 p2 p3 p4 p5 p6 p7 p8 p9
        have HE := Lib.hid (HD.out.trans (hbE.mono HD.out.size))
        have HV3 := Lib.hid (HV2.out.up hbE)
        have HR3 := Lib.hid (Below.row hbE HR2.out HR2.out.lt)
        have HX3 := Lib.hid (Below.row hbE HX2.out HX2.out.lt)
        have HY3 := Lib.hid (Below.row hbE HY2.out HY2.out.lt)
        have HGR := Lib.hid hg
        clear hg hbE HD HV2 HR2 HX2 HY2
        go_wp2_with fail
        refine (reg_new wE).mono ?_; rintro e wF ⟨rb, mb, rfl, hr, hbF, hmb, hrb⟩
        have HST : Hid (TSt w wE.heap.size g1 g2 nL wE.heap.size rb mb #[.slice A0 k0 c0, .slice A1 k1 c1, .slice A2 k2 c2, .slice A3 k3 c3, .slice A4 k4 c4, .int .i64 t0, .int .i64 t1, .int .i64 t2, .int .i64 t3, .int .i64 t4] #[.int .u8 (x.do_ : Int), .int .u8 (x.id : Int), .int .u8 (x.tk : Int), .int .u8 (x.fr : Int), .slice At x.ts.length ct, .int .u16 (x.ah : Int), .bool x.wh, .int .u8 (x.mo : Int)] #[.int .u8 (y.do_ : Int), .int .u8 (y.id : Int), .int .u8 (y.tk : Int), .int .u8 (y.fr : Int), .slice As y.ts.length cs, .int .u16 (y.ah : Int), .bool y.wh, .int .u8 (y.mo : Int)] vg L 0 (fun _ => none) wF) :=
          ⟨HE.out.trans (hbF.mono HE.out.size), Below.row hbF HX3.out HX3.out.lt, Below.row hbF HY3.out HY3.out.lt, Below.row hbF HR3.out HR3.out.lt, HGR.out.keep hbF (Nat.le_refl _), HV3.out.keep hbF (Nat.le_refl _), hr, HE.out.size, HX3.out.lt, HY3.out.lt, HR3.out.lt, Nat.le_refl _, hbF.size, hmb⟩
        have HRB : Hid (wE.heap.size ≤ rb) := hrb
        clear hr hbF hmb hrb HE HV3 HR3 HX3 HY3 HGR
        generalize wE.heap.size = B at *
        have HKN : Hid (Ks [] (fun _ => none)) := ⟨by simp, fun x => by simp⟩
        have HNE : Hid (g1 ≠ g2 ∧ nL ≠ g1 ∧ nL ≠ g2 ∧ w.heap.size ≤ g1 ∧ w.heap.size ≤ g2) := ⟨by have := HG0.out; omega, row_types HST.out.rl HST.out.r1 (by decide), row_types HST.out.rl HST.out.r2 (by decide), by have := HG0.out; omega, by have := HG0.out; omega⟩
        have e0 := HST.out.r1.cell 0; have z0 := HST.out.r1.frozen 0
        simp only [List.getElem?_toArray, List.getElem?_cons_zero] at e0
        have HS1 : Hid (TSt w B g1 g2 nL B rb mb #[.slice A0 k0 c0, .slice A1 k1 c1, .slice A2 k2 c2, .slice A3 k3 c3, .slice A4 k4 c4, .int .i64 t0, .int .i64 t1, .int .i64 t2, .int .i64 t3, .int .i64 t4] #[.int .u8 0, .int .u8 (x.id : Int), .int .u8 (x.tk : Int), .int .u8 (x.fr : Int), .slice At x.ts.length ct, .int .u16 (x.ah : Int), .bool x.wh, .int .u8 (x.mo : Int)] #[.int .u8 (y.do_ : Int), .int .u8 (y.id : Int), .int .u8 (y.tk : Int), .int .u8 (y.fr : Int), .slice As y.ts.length cs, .int .u16 (y.ah : Int), .bool y.wh, .int .u8 (y.mo : Int)] vg L 0 (fun _ => none) (wF.setCell ⟨g1, 0, none⟩ (.int .u8 0))) := HST.out.set1 0 (.int .u8 0) (kn_set _ e0) (HST.out.r1.set 0 (.int .u8 0)) HNE.out.1 HNE.out.2.1 HNE.out.2.2.2.1 HRB.out
        have e1 := HS1.out.r2.cell 0; have z1 := HS1.out.r2.frozen 0
        simp only [List.getElem?_toArray, List.getElem?_cons_zero] at e1
        have HS2 : Hid (TSt w B g1 g2 nL B rb mb #[.slice A0 k0 c0, .slice A1 k1 c1, .slice A2 k2 c2, .slice A3 k3 c3, .slice A4 k4 c4, .int .i64 t0, .int .i64 t1, .int .i64 t2, .int .i64 t3, .int .i64 t4] #[.int .u8 0, .int .u8 (x.id : Int), .int .u8 (x.tk : Int), .int .u8 (x.fr : Int), .slice At x.ts.length ct, .int .u16 (x.ah : Int), .bool x.wh, .int .u8 (x.mo : Int)] #[.int .u8 0, .int .u8 (y.id : Int), .int .u8 (y.tk : Int), .int .u8 (y.fr : Int), .slice As y.ts.length cs, .int .u16 (y.ah : Int), .bool y.wh, .int .u8 (y.mo : Int)] vg L 0 (fun _ => none) ((wF.setCell ⟨g1, 0, none⟩ (.int .u8 0)).setCell ⟨g2, 0, none⟩ (.int .u8 0))) := HS1.out.set2 0 (.int .u8 0) (kn_set _ e1) (HS1.out.r2.set 0 (.int .u8 0)) HNE.out.1 HNE.out.2.2.1 HNE.out.2.2.2.2 HRB.out
        have e2 := HS2.out.r1.cell 1; have z2 := HS2.out.r1.frozen 1
        simp only [List.getElem?_toArray, List.getElem?_cons_zero, List.getElem?_cons_succ] at e2
        have HS3 : Hid (TSt w B g1 g2 nL B rb mb #[.slice A0 k0 c0, .slice A1 k1 c1, .slice A2 k2 c2, .slice A3 k3 c3, .slice A4 k4 c4, .int .i64 t0, .int .i64 t1, .int .i64 t2, .int .i64 t3, .int .i64 t4] #[.int .u8 0, .int .u8 3, .int .u8 (x.tk : Int), .int .u8 (x.fr : Int), .slice At x.ts.length ct, .int .u16 (x.ah : Int), .bool x.wh, .int .u8 (x.mo : Int)] #[.int .u8 0, .int .u8 (y.id : Int), .int .u8 (y.tk : Int), .int .u8 (y.fr : Int), .slice As y.ts.length cs, .int .u16 (y.ah : Int), .bool y.wh, .int .u8 (y.mo : Int)] vg L 0 (fun _ => none) (((wF.setCell ⟨g1, 0, none⟩ (.int .u8 0)).setCell ⟨g2, 0, none⟩ (.int .u8 0)).setCell ⟨g1, 1, none⟩ (.int .u8 3))) := HS2.out.set1 1 (.int .u8 3) (kn_set _ e2) (HS2.out.r1.set 1 (.int .u8 3)) HNE.out.1 HNE.out.2.1 HNE.out.2.2.2.1 HRB.out
        have e3 := HS3.out.r2.cell 1; have z3 := HS3.out.r2.frozen 1
        simp only [List.getElem?_toArray, List.getElem?_cons_zero, List.getElem?_cons_succ] at e3
        have HS4 : Hid (TSt w B g1 g2 nL B rb mb #[.slice A0 k0 c0, .slice A1 k1 c1, .slice A2 k2 c2, .slice A3 k3 c3, .slice A4 k4 c4, .int .i64 t0, .int .i64 t1, .int .i64 t2, .int .i64 t3, .int .i64 t4] #[.int .u8 0, .int .u8 3, .int .u8 (x.tk : Int), .int .u8 (x.fr : Int), .slice At x.ts.length ct, .int .u16 (x.ah : Int), .bool x.wh, .int .u8 (x.mo : Int)] #[.int .u8 0, .int .u8 3, .int .u8 (y.tk : Int), .int .u8 (y.fr : Int), .slice As y.ts.length cs, .int .u16 (y.ah : Int), .bool y.wh, .int .u8 (y.mo : Int)] vg L 0 (fun _ => none) ((((wF.setCell ⟨g1, 0, none⟩ (.int .u8 0)).setCell ⟨g2, 0, none⟩ (.int .u8 0)).setCell ⟨g1, 1, none⟩ (.int .u8 3)).setCell ⟨g2, 1, none⟩ (.int .u8 3))) := HS3.out.set2 1 (.int .u8 3) (kn_set _ e3) (HS3.out.r2.set 1 (.int .u8 3)) HNE.out.1 HNE.out.2.2.1 HNE.out.2.2.2.2 HRB.out
        clear HST
        go_upto_region 6 with (fail)
        clear e0 z0 e1 z1 e2 z2 e3 z3 HS1 HS2 HS3
        generalize ((((wF.setCell ⟨g1, 0, none⟩ (.int .u8 0)).setCell ⟨g2, 0, none⟩ (.int .u8 0)).setCell ⟨g1, 1, none⟩ (.int .u8 3)).setCell ⟨g2, 1, none⟩ (.int .u8 3)) = wG at *
        have HWY := Lib.hid (rep_wf HTM.out HFT.out y.fr y.mo y.ts HSE.out.1 HAY.out.fr)
        have HWX := Lib.hid (rep_wf HTM.out HFT.out x.fr x.mo x.ts HSE.out.1 HAX.out.fr)
        have HFY := Lib.hid (rep_fits HTM.out y.fr y.ah y.mo y.ts HSE.out.1 HAY.out.fr (fun n hn => (HSE.out.2 n hn).1))
        have HFX := Lib.hid (rep_fits HTM.out x.fr x.ah x.mo x.ts HSE.out.1 HAX.out.fr (fun n hn => (HSE.out.2 n hn).1))
        obtain ⟨TY, hTY⟩ : ∃ T, repT L y.fr y.mo y.ts = T := ⟨_, rfl⟩
        obtain ⟨dY, hdY⟩ : ∃ T : Int, 1 - ((y.fr / 128 : Nat) : Int) = T := ⟨_, rfl⟩
        obtain ⟨aY, haY⟩ : ∃ T : Int, ((repA L y.fr y.ah : Nat) : Int) = T := ⟨_, rfl⟩
        obtain ⟨TX, hTX⟩ : ∃ T, repT L x.fr x.mo x.ts = T := ⟨_, rfl⟩
        obtain ⟨dX, hdX⟩ : ∃ T : Int, 1 - ((x.fr / 128 : Nat) : Int) = T := ⟨_, rfl⟩
        obtain ⟨aX, haX⟩ : ∃ T : Int, ((repA L x.fr x.ah : Nat) : Int) = T := ⟨_, rfl⟩
        have HRX : Hid (∀ (time : Int) (n : Nat) (m : Mp) (W : World), TSt w B g1 g2 nL B rb mb #[.slice A0 k0 c0, .slice A1 k1 c1, .slice A2 k2 c2, .slice A3 k3 c3, .slice A4 k4 c4, .int .i64 t0, .int .i64 t1, .int .i64 t2, .int .i64 t3, .int .i64 t4] #[.int .u8 0, .int .u8 3, .int .u8 (x.tk : Int), .int .u8 (x.fr : Int), .slice At x.ts.length ct, .int .u16 (x.ah : Int), .bool x.wh, .int .u8 (x.mo : Int)] #[.int .u8 0, .int .u8 3, .int .u8 (y.tk : Int), .int .u8 (y.fr : Int), .slice As y.ts.length cs, .int .u16 (y.ah : Int), .bool y.wh, .int .u8 (y.mo : Int)] vg L n m W → Calls Try.prog 14 #[.agg #[.slice A0 k0 c0, .slice A1 k1 c1, .slice A2 k2 c2, .slice A3 k3 c3, .slice A4 k4 c4, .int .i64 t0, .int .i64 t1, .int .i64 t2, .int .i64 t3, .int .i64 t4], .agg #[.int .u8 0, .int .u8 3, .int .u8 (x.tk : Int), .int .u8 (x.fr : Int), .slice At x.ts.length ct, .int .u16 (x.ah : Int), .bool x.wh, .int .u8 (x.mo : Int)], .int .i64 time] W (fun e w' => ∃ A c, e = .returned (.agg (mcellsR 3 3 time dX aX x.wh (.slice A TX.length c))) ∧ Rd w' w'.heap.size (.slice A TX.length c) (ivals TX) ∧ Below W.heap.size W w')) := fun time n m W h => by
          refine (h.rep HFT.out HSE.out 3 x.tk x.fr x.ah x.mo x.wh At ct x.ts time (by decide) HAX.out.fr HAX.out.ah HAX.out.mo HT.out HAX.out.by_ (by omega)).mono ?_
          rintro e w' ⟨A, c, rfl, ho, hb⟩
          rw [hTX] at ho ⊢
          rw [← hdX, ← haX]
          exact ⟨A, c, rfl, Rd.of_own ho, hb⟩
        have HRY : Hid (∀ (time : Int) (n : Nat) (m : Mp) (W : World), TSt w B g1 g2 nL B rb mb #[.slice A0 k0 c0, .slice A1 k1 c1, .slice A2 k2 c2, .slice A3 k3 c3, .slice A4 k4 c4, .int .i64 t0, .int .i64 t1, .int .i64 t2, .int .i64 t3, .int .i64 t4] #[.int .u8 0, .int .u8 3, .int .u8 (x.tk : Int), .int .u8 (x.fr : Int), .slice At x.ts.length ct, .int .u16 (x.ah : Int), .bool x.wh, .int .u8 (x.mo : Int)] #[.int .u8 0, .int .u8 3, .int .u8 (y.tk : Int), .int .u8 (y.fr : Int), .slice As y.ts.length cs, .int .u16 (y.ah : Int), .bool y.wh, .int .u8 (y.mo : Int)] vg L n m W → Calls Try.prog 14 #[.agg #[.slice A0 k0 c0, .slice A1 k1 c1, .slice A2 k2 c2, .slice A3 k3 c3, .slice A4 k4 c4, .int .i64 t0, .int .i64 t1, .int .i64 t2, .int .i64 t3, .int .i64 t4], .agg #[.int .u8 0, .int .u8 3, .int .u8 (y.tk : Int), .int .u8 (y.fr : Int), .slice As y.ts.length cs, .int .u16 (y.ah : Int), .bool y.wh, .int .u8 (y.mo : Int)], .int .i64 time] W (fun e w' => ∃ A c, e = .returned (.agg (mcellsR 3 3 time dY aY y.wh (.slice A TY.length c))) ∧ Rd w' w'.heap.size (.slice A TY.length c) (ivals TY) ∧ Below W.heap.size W w')) := fun time n m W h => by
          refine (h.rep HFT.out HSE.out 3 y.tk y.fr y.ah y.mo y.wh As cs y.ts time (by decide) HAY.out.fr HAY.out.ah HAY.out.mo HT2.out HAY.out.by_ (by omega)).mono ?_
          rintro e w' ⟨A, c, rfl, ho, hb⟩
          rw [hTY] at ho ⊢
          rw [← hdY, ← haY]
          exact ⟨A, c, rfl, Rd.of_own ho, hb⟩
        rw [hTX] at HFX HWX
        rw [hdX, haX] at HFX
        rw [hTY] at HFY HWY
        rw [hdY, haY] at HFY
        clear hTX hdX haX hTY hdY haY
        have HPX : Hid (fitsP L TX dX aX = true) := by show _ = _; rw [fits_eq HTM.out]; exact HFX.out
        have HPY : Hid (fitsP L TY dY aY = true) := by show _ = _; rw [fits_eq HTM.out]; exact HFY.out
        clear HFX HFY
        have hv1 : IntKind.i64.wrap (now : Int) = (now : Int) := IntWalk.i64_in _ (by omega)
        have hv2 : IntKind.i64.wrap ((now : Int) + 10) = (now : Int) + 10 := IntWalk.i64_in _ (by omega)
        go_upto_region 7 with (fail)
        clear hv1 hv2
        obtain ⟨t, ht⟩ : ∃ t : Int, (now : Int) + 10 = t := ⟨_, rfl⟩
        rw [ht]
        have hb1 : 10 ≤ t := by omega
        have hb2 : t ≤ 65545 := by omega
        have HBT : Hid (10 ≤ t ∧ t ≤ 65545) := ⟨hb1, hb2⟩
        clear ht
        have hv5 : IntKind.i64.wrap (t - 5) = t - 5 := IntWalk.i64_in _ (by omega)
        have hv2 : IntKind.i64.wrap (t - 2) = t - 2 := IntWalk.i64_in _ (by omega)
        have hv4 : IntKind.i64.wrap (t - 4) = t - 4 := IntWalk.i64_in _ (by omega)
        have hv1 : IntKind.i64.wrap (t + 1) = t + 1 := IntWalk.i64_in _ (by omega)
        obtain ⟨ta, hta⟩ : ∃ a : Int, t - 2 = a := ⟨_, rfl⟩
        obtain ⟨tb, htb⟩ : ∃ a : Int, t - 4 = a := ⟨_, rfl⟩
        obtain ⟨tc, htc⟩ : ∃ a : Int, t + 1 = a := ⟨_, rfl⟩
        obtain ⟨td, htd⟩ : ∃ a : Int, t - 5 = a := ⟨_, rfl⟩
        rw [hta] at hv2; rw [htb] at hv4; rw [htc] at hv1; rw [htd] at hv5
        have HTT : Hid (ta = t - 2 ∧ tb = t - 4 ∧ tc = t + 1 ∧ td = t - 5 ∧ 10 ≤ t ∧ t ≤ 65545) := ⟨hta.symm, htb.symm, htc.symm, htd.symm, hb1, hb2⟩
        clear hb1 hb2 HBT
        have x0 := HS4.out.r1.cell 0; have x1 := HS4.out.r1.cell 1; have x2 := HS4.out.r1.cell 2; have x3 := HS4.out.r1.cell 3; have x4 := HS4.out.r1.cell 4; have x5 := HS4.out.r1.cell 5; have x6 := HS4.out.r1.cell 6; have x7 := HS4.out.r1.cell 7
        simp only [List.getElem?_toArray, List.getElem?_cons_zero, List.getElem?_cons_succ] at x0 x1 x2 x3 x4 x5 x6 x7
        have p0 := HS4.out.rl.cell 0; have p1 := HS4.out.rl.cell 1; have p2 := HS4.out.rl.cell 2; have p3 := HS4.out.rl.cell 3; have p4 := HS4.out.rl.cell 4; have p5 := HS4.out.rl.cell 5; have p6 := HS4.out.rl.cell 6; have p7 := HS4.out.rl.cell 7; have p8 := HS4.out.rl.cell 8; have p9 := HS4.out.rl.cell 9
        simp only [List.getElem?_toArray, List.getElem?_cons_zero, List.getElem?_cons_succ] at p0 p1 p2 p3 p4 p5 p6 p7 p8 p9
        go_wp2_with fail
        refine (HRX.out t _ _ wG HS4.out).mono ?_; rintro e v1 ⟨AM1, cM1, rfl, hr1, hb1⟩
        clear p0 p1 p2 p3 p4 p5 p6 p7 p8 p9
        clear x0 x1 x2 x3 x4 x5 x6 x7
        have HU1 := Lib.hid hr1
        have HSa1 := Lib.hid (HS4.out.call hb1)
        clear hr1 hb1 HS4
        have HNO := Lib.hid (note_none v1 rb mb 0 _ HSa1.out.reg vg t 3 3 t dX aX x.wh (.slice AM1 TX.length cM1) (.slice none 0 0) (wf_in (by decide) (by decide)) rfl)
        go_wp2_with fail
        refine HNO.out.mono ?_; rintro e v2 ⟨rfl, hr1, hk1⟩
        have HSb1 := Lib.hid (HSa1.out.turn hk1 hr1)
        clear hr1 hk1 HSa1 HNO HU1
        have HNO := Lib.hid (open_ok v2 rb mb 0 _ [] HSb1.out.reg (by omega) HKN.out 3 td (wf_in (by decide) (by decide)) rfl (by decide))
        go_wp2_with fail
        refine HNO.out.mono ?_; rintro e v3 ⟨rfl, hr2, hk2⟩
        have HSb2 := Lib.hid (HSb1.out.turn hk2 hr2)
        clear hr2 hk2 HSb1 HNO
        have x0 := HSb2.out.r1.cell 0; have x1 := HSb2.out.r1.cell 1; have x2 := HSb2.out.r1.cell 2; have x3 := HSb2.out.r1.cell 3; have x4 := HSb2.out.r1.cell 4; have x5 := HSb2.out.r1.cell 5; have x6 := HSb2.out.r1.cell 6; have x7 := HSb2.out.r1.cell 7
        simp only [List.getElem?_toArray, List.getElem?_cons_zero, List.getElem?_cons_succ] at x0 x1 x2 x3 x4 x5 x6 x7
        have p0 := HSb2.out.rl.cell 0; have p1 := HSb2.out.rl.cell 1; have p2 := HSb2.out.rl.cell 2; have p3 := HSb2.out.rl.cell 3; have p4 := HSb2.out.rl.cell 4; have p5 := HSb2.out.rl.cell 5; have p6 := HSb2.out.rl.cell 6; have p7 := HSb2.out.rl.cell 7; have p8 := HSb2.out.rl.cell 8; have p9 := HSb2.out.rl.cell 9
        simp only [List.getElem?_toArray, List.getElem?_cons_zero, List.getElem?_cons_succ] at p0 p1 p2 p3 p4 p5 p6 p7 p8 p9
        go_wp2_with fail
        refine (HRX.out ta _ _ v3 HSb2.out).mono ?_; rintro e v4 ⟨AM3, cM3, rfl, hr3, hb3⟩
        clear p0 p1 p2 p3 p4 p5 p6 p7 p8 p9
        clear x0 x1 x2 x3 x4 x5 x6 x7
        have HU3 := Lib.hid hr3
        have HSa3 := Lib.hid (HSb2.out.call hb3)
        clear hr3 hb3 HSb2
        have hm3 : mayP ⟨3, td, -1, 0, 0, []⟩ t ta = false := by
          have := HTT.out
          rw [show mayP ⟨3, td, -1, 0, 0, []⟩ t ta = decide (ta = t) from rfl, decide_eq_false_iff_not]; omega
        have HNO := Lib.hid (note_state v4 rb mb 1 _ HSa3.out.reg B vg L t 3 ta dX aX x.wh AM3 cM3 TX (.slice none 0 0) ⟨3, td, -1, 0, 0, []⟩ (wf_in (by decide) (by decide)) (by simp [upd]) HSa3.out.gr HSa3.out.sw HFT.out HU3.out (by have := HWX.out.2.2; omega) HPX.out hm3)
        clear hm3
        go_wp2_with fail
        refine HNO.out.mono ?_; rintro e v5 ⟨rfl, hr3, hk3⟩
        have HSb3 := Lib.hid (HSa3.out.turn hk3 hr3)
        clear hr3 hk3 HSa3 HNO HU3
        have x0 := HSb3.out.r1.cell 0; have x1 := HSb3.out.r1.cell 1; have x2 := HSb3.out.r1.cell 2; have x3 := HSb3.out.r1.cell 3; have x4 := HSb3.out.r1.cell 4; have x5 := HSb3.out.r1.cell 5; have x6 := HSb3.out.r1.cell 6; have x7 := HSb3.out.r1.cell 7
        simp only [List.getElem?_toArray, List.getElem?_cons_zero, List.getElem?_cons_succ] at x0 x1 x2 x3 x4 x5 x6 x7
        have p0 := HSb3.out.rl.cell 0; have p1 := HSb3.out.rl.cell 1; have p2 := HSb3.out.rl.cell 2; have p3 := HSb3.out.rl.cell 3; have p4 := HSb3.out.rl.cell 4; have p5 := HSb3.out.rl.cell 5; have p6 := HSb3.out.rl.cell 6; have p7 := HSb3.out.rl.cell 7; have p8 := HSb3.out.rl.cell 8; have p9 := HSb3.out.rl.cell 9
        simp only [List.getElem?_toArray, List.getElem?_cons_zero, List.getElem?_cons_succ] at p0 p1 p2 p3 p4 p5 p6 p7 p8 p9
        go_wp2_with fail
        refine (HRX.out ta _ _ v5 HSb3.out).mono ?_; rintro e v6 ⟨AM4, cM4, rfl, hr4, hb4⟩
        clear p0 p1 p2 p3 p4 p5 p6 p7 p8 p9
        clear x0 x1 x2 x3 x4 x5 x6 x7
        have HU4 := Lib.hid hr4
        have HSa4 := Lib.hid (HSb3.out.call hb4)
        clear hr4 hb4 HSb3
        have hm4 : mayP ⟨3, td, -1, 0, 0, []⟩ ta ta = true := by
          rw [show mayP ⟨3, td, -1, 0, 0, []⟩ ta ta = decide (ta = ta) from rfl, decide_eq_true_iff]
        have HNO := Lib.hid (note_ok v6 rb mb 1 _ HSa4.out.reg B vg L ta 3 ta dX aX x.wh AM4 cM4 TX (.slice none 0 0) ⟨3, td, -1, 0, 0, []⟩ (wf_in (by decide) (by decide)) (by simp [upd]) HSa4.out.gr HSa4.out.sw HFT.out HU4.out (by have := HWX.out.2.2; omega) HPX.out hm4 (by omega) [] (Rd.empty _ _) (by simp) HWX.out.1 (by intro n hn; simp at hn) rfl)
        clear hm4
        go_wp2_with fail
        refine HNO.out.mono ?_; rintro e v7 ⟨rfl, hr4, hk4⟩
        have HSb4 := Lib.hid (HSa4.out.turn hk4 hr4)
        clear hr4 hk4 HSa4 HNO HU4
        obtain ⟨su, hsu⟩ : ∃ s : Int, (if x.wh = true then ta else -1) = s := ⟨_, rfl⟩
        obtain ⟨U, hU⟩ : ∃ U, (if x.wh = true then TX else joinL TX []) = U := ⟨_, rfl⟩
        have HSc : Hid (TSt w B g1 g2 nL B rb mb #[.slice A0 k0 c0, .slice A1 k1 c1, .slice A2 k2 c2, .slice A3 k3 c3, .slice A4 k4 c4, .int .i64 t0, .int .i64 t1, .int .i64 t2, .int .i64 t3, .int .i64 t4] #[.int .u8 0, .int .u8 3, .int .u8 (x.tk : Int), .int .u8 (x.fr : Int), .slice At x.ts.length ct, .int .u16 (x.ah : Int), .bool x.wh, .int .u8 (x.mo : Int)] #[.int .u8 0, .int .u8 3, .int .u8 (y.tk : Int), .int .u8 (y.fr : Int), .slice As y.ts.length cs, .int .u16 (y.ah : Int), .bool y.wh, .int .u8 (y.mo : Int)] vg L 2 (upd (upd (fun _ => none) 3 (some ⟨3, td, -1, 0, 0, []⟩)) 3 (some ⟨3, ta, su, dX, aX, U⟩)) v7) := by rw [← hsu, ← hU]; exact HSb4.out
        have HSU := Lib.hid hsu
        have hUl : U.length ≤ 10000 := by
          rw [← hU]
          have h1 := HWX.out.2.2; have h3 := joinL_le TX []
          simp only [List.length_nil] at h3
          split <;> omega
        have HUL := Lib.hid hUl
        have HMP : Hid (∀ z, (z = ta ∨ z = tb ∨ z = tc) → mayP ⟨3, ta, su, dX, aX, U⟩ t z = false) := fun z hz => by
          have := HTT.out
          unfold mayP
          split
          · rw [decide_eq_false_iff_not]; omega
          · rw [Bool.and_eq_false_iff, decide_eq_false_iff_not, decide_eq_false_iff_not]; show _ ∨ ¬ ta < z; omega
        clear hsu hU hUl HSb4
        have HSa4 := Lib.hid HSc.out
        clear HSc
        have HGE := Lib.hid (get_some v7 rb mb _ _ HSa4.out.reg 3 (wf_in (by decide) (by decide)) ⟨3, ta, su, dX, aX, U⟩ (by simp [upd]) (by have := HUL.out; show U.length ≤ _; omega))
        go_wp2_with fail
        refine HGE.out.mono ?_; rintro e v8 ⟨vA, rfl, hoA, hbA⟩
        obtain ⟨AA, cA, hvA⟩ := own_slice hoA
        subst hvA
        simp only at hoA ⊢
        have HSgA := Lib.hid (HSa4.out.call hbA)
        have HTgA := Lib.hid (Rd.of_own hoA)
        clear hoA hbA HGE HSa4 
        have hba := (Below.refl v8.heap.size v8).alloc (Nat.le_refl _) (.cells (tcells 3 ta su dX aX (.slice AA U.length cA)) 58)
        have HShA := Lib.hid (HSgA.out.call hba)
        have HThA := Lib.hid (HTgA.out.up hba)
        have HRA := Lib.hid (Row.new v8 58 (tcells 3 ta su dX aX (.slice AA U.length cA)))
        clear hba HSgA HTgA 
        go_upto_region 10 with (fail)
        obtain ⟨nA, hnA⟩ : ∃ n, v8.heap.size = n := ⟨_, rfl⟩
        rw [hnA] at HRA ⊢
        clear hnA
        generalize v8.alloc (.cells (tcells 3 ta su dX aX (.slice AA U.length cA)) 58) = v9 at *
        have hneA : nA ≠ mb := by
          obtain ⟨es, ck, e⟩ := HShA.out.reg.is
          rintro rfl
          have h1 := HRA.out
          unfold Row at h1
          rw [e] at h1; cases h1
        have HNA := Lib.hid hneA
        clear hneA
        have x0 := HShA.out.r2.cell 0; have x1 := HShA.out.r2.cell 1; have x2 := HShA.out.r2.cell 2; have x3 := HShA.out.r2.cell 3; have x4 := HShA.out.r2.cell 4; have x5 := HShA.out.r2.cell 5; have x6 := HShA.out.r2.cell 6; have x7 := HShA.out.r2.cell 7
        simp only [List.getElem?_toArray, List.getElem?_cons_zero, List.getElem?_cons_succ] at x0 x1 x2 x3 x4 x5 x6 x7
        have p0 := HShA.out.rl.cell 0; have p1 := HShA.out.rl.cell 1; have p2 := HShA.out.rl.cell 2; have p3 := HShA.out.rl.cell 3; have p4 := HShA.out.rl.cell 4; have p5 := HShA.out.rl.cell 5; have p6 := HShA.out.rl.cell 6; have p7 := HShA.out.rl.cell 7; have p8 := HShA.out.rl.cell 8; have p9 := HShA.out.rl.cell 9
        simp only [List.getElem?_toArray, List.getElem?_cons_zero, List.getElem?_cons_succ] at p0 p1 p2 p3 p4 p5 p6 p7 p8 p9
        go_wp2_with fail
        refine (HRY.out ta _ _ v9 HShA.out).mono ?_; rintro e v10 ⟨AM5, cM5, rfl, hr5, hb5⟩
        clear p0 p1 p2 p3 p4 p5 p6 p7 p8 p9
        clear x0 x1 x2 x3 x4 x5 x6 x7
        have HU5 := Lib.hid hr5
        have HSa5 := Lib.hid (HShA.out.call hb5)
        have HRA5 := Lib.hid (Below.row hb5 HRA.out HRA.out.lt)
        have HTA5 := Lib.hid (HThA.out.up hb5)
        clear HRA HThA hr5 hb5 HShA
        have HNO := Lib.hid (note_state v10 rb mb 2 _ HSa5.out.reg B vg L t 3 ta dY aY y.wh AM5 cM5 TY (.slice none 0 0) ⟨3, ta, su, dX, aX, U⟩ (wf_in (by decide) (by decide)) (by simp [upd]) HSa5.out.gr HSa5.out.sw HFT.out HU5.out (by have := HWY.out.2.2; omega) HPY.out (HMP.out _ (by simp)))
        go_wp2_with fail
        refine HNO.out.mono ?_; rintro e v11 ⟨rfl, hr5, hk5⟩
        have HSb5 := Lib.hid (HSa5.out.turn hk5 hr5)
        have HRAn5 := Lib.hid (hk5.row HRA5.out (by simpa using HNA.out))
        have HTAn5 := Lib.hid (HSa5.out.kept HTA5.out hk5)
        clear hr5 hk5 HSa5 HNO HU5 HRA5 HTA5
        have x0 := HSb5.out.r2.cell 0; have x1 := HSb5.out.r2.cell 1; have x2 := HSb5.out.r2.cell 2; have x3 := HSb5.out.r2.cell 3; have x4 := HSb5.out.r2.cell 4; have x5 := HSb5.out.r2.cell 5; have x6 := HSb5.out.r2.cell 6; have x7 := HSb5.out.r2.cell 7
        simp only [List.getElem?_toArray, List.getElem?_cons_zero, List.getElem?_cons_succ] at x0 x1 x2 x3 x4 x5 x6 x7
        have p0 := HSb5.out.rl.cell 0; have p1 := HSb5.out.rl.cell 1; have p2 := HSb5.out.rl.cell 2; have p3 := HSb5.out.rl.cell 3; have p4 := HSb5.out.rl.cell 4; have p5 := HSb5.out.rl.cell 5; have p6 := HSb5.out.rl.cell 6; have p7 := HSb5.out.rl.cell 7; have p8 := HSb5.out.rl.cell 8; have p9 := HSb5.out.rl.cell 9
        simp only [List.getElem?_toArray, List.getElem?_cons_zero, List.getElem?_cons_succ] at p0 p1 p2 p3 p4 p5 p6 p7 p8 p9
        go_wp2_with fail
        refine (HRY.out tb _ _ v11 HSb5.out).mono ?_; rintro e v12 ⟨AM6, cM6, rfl, hr6, hb6⟩
        clear p0 p1 p2 p3 p4 p5 p6 p7 p8 p9
        clear x0 x1 x2 x3 x4 x5 x6 x7
        have HU6 := Lib.hid hr6
        have HSa6 := Lib.hid (HSb5.out.call hb6)
        have HRA6 := Lib.hid (Below.row hb6 HRAn5.out HRAn5.out.lt)
        have HTA6 := Lib.hid (HTAn5.out.up hb6)
        clear HRAn5 HTAn5 hr6 hb6 HSb5
        have HNO := Lib.hid (note_state v12 rb mb 2 _ HSa6.out.reg B vg L t 3 tb dY aY y.wh AM6 cM6 TY (.slice none 0 0) ⟨3, ta, su, dX, aX, U⟩ (wf_in (by decide) (by decide)) (by simp [upd]) HSa6.out.gr HSa6.out.sw HFT.out HU6.out (by have := HWY.out.2.2; omega) HPY.out (HMP.out _ (by simp)))
        go_wp2_with fail
        refine HNO.out.mono ?_; rintro e v13 ⟨rfl, hr6, hk6⟩
        have HSb6 := Lib.hid (HSa6.out.turn hk6 hr6)
        have HRAn6 := Lib.hid (hk6.row HRA6.out (by simpa using HNA.out))
        have HTAn6 := Lib.hid (HSa6.out.kept HTA6.out hk6)
        clear hr6 hk6 HSa6 HNO HU6 HRA6 HTA6
        have x0 := HSb6.out.r2.cell 0; have x1 := HSb6.out.r2.cell 1; have x2 := HSb6.out.r2.cell 2; have x3 := HSb6.out.r2.cell 3; have x4 := HSb6.out.r2.cell 4; have x5 := HSb6.out.r2.cell 5; have x6 := HSb6.out.r2.cell 6; have x7 := HSb6.out.r2.cell 7
        simp only [List.getElem?_toArray, List.getElem?_cons_zero, List.getElem?_cons_succ] at x0 x1 x2 x3 x4 x5 x6 x7
        have p0 := HSb6.out.rl.cell 0; have p1 := HSb6.out.rl.cell 1; have p2 := HSb6.out.rl.cell 2; have p3 := HSb6.out.rl.cell 3; have p4 := HSb6.out.rl.cell 4; have p5 := HSb6.out.rl.cell 5; have p6 := HSb6.out.rl.cell 6; have p7 := HSb6.out.rl.cell 7; have p8 := HSb6.out.rl.cell 8; have p9 := HSb6.out.rl.cell 9
        simp only [List.getElem?_toArray, List.getElem?_cons_zero, List.getElem?_cons_succ] at p0 p1 p2 p3 p4 p5 p6 p7 p8 p9
        go_wp2_with fail
        refine (HRY.out tc _ _ v13 HSb6.out).mono ?_; rintro e v14 ⟨AM7, cM7, rfl, hr7, hb7⟩
        clear p0 p1 p2 p3 p4 p5 p6 p7 p8 p9
        clear x0 x1 x2 x3 x4 x5 x6 x7
        have HU7 := Lib.hid hr7
        have HSa7 := Lib.hid (HSb6.out.call hb7)
        have HRA7 := Lib.hid (Below.row hb7 HRAn6.out HRAn6.out.lt)
        have HTA7 := Lib.hid (HTAn6.out.up hb7)
        clear HRAn6 HTAn6 hr7 hb7 HSb6
        have HNO := Lib.hid (note_state v14 rb mb 2 _ HSa7.out.reg B vg L t 3 tc dY aY y.wh AM7 cM7 TY (.slice none 0 0) ⟨3, ta, su, dX, aX, U⟩ (wf_in (by decide) (by decide)) (by simp [upd]) HSa7.out.gr HSa7.out.sw HFT.out HU7.out (by have := HWY.out.2.2; omega) HPY.out (HMP.out _ (by simp)))
        go_wp2_with fail
        refine HNO.out.mono ?_; rintro e v15 ⟨rfl, hr7, hk7⟩
        have HSb7 := Lib.hid (HSa7.out.turn hk7 hr7)
        have HRAn7 := Lib.hid (hk7.row HRA7.out (by simpa using HNA.out))
        have HTAn7 := Lib.hid (HSa7.out.kept HTA7.out hk7)
        clear hr7 hk7 HSa7 HNO HU7 HRA7 HTA7
        have HGE := Lib.hid (get_some v15 rb mb _ _ HSb7.out.reg 3 (wf_in (by decide) (by decide)) ⟨3, ta, su, dX, aX, U⟩ (by simp [upd]) (by have := HUL.out; show U.length ≤ _; omega))
        go_wp2_with fail
        refine HGE.out.mono ?_; rintro e v16 ⟨vB, rfl, hoB, hbB⟩
        obtain ⟨AB, cB, hvB⟩ := own_slice hoB
        subst hvB
        simp only at hoB ⊢
        have HSgB := Lib.hid (HSb7.out.call hbB)
        have HTgB := Lib.hid (Rd.of_own hoB)
        have HRAn7gB := Lib.hid (Below.row hbB HRAn7.out HRAn7.out.lt)
        have HTAn7gB := Lib.hid (HTAn7.out.up hbB)
        clear hoB hbB HGE HSb7 HRAn7 HTAn7
        have hba := (Below.refl v16.heap.size v16).alloc (Nat.le_refl _) (.cells (tcells 3 ta su dX aX (.slice AB U.length cB)) 58)
        have HShB := Lib.hid (HSgB.out.call hba)
        have HThB := Lib.hid (HTgB.out.up hba)
        have HRB := Lib.hid (Row.new v16 58 (tcells 3 ta su dX aX (.slice AB U.length cB)))
        have HRAn7hB := Lib.hid (Below.row hba HRAn7gB.out HRAn7gB.out.lt)
        have HTAn7hB := Lib.hid (HTAn7gB.out.up hba)
        clear hba HSgB HTgB HRAn7gB HTAn7gB
        go_upto_region 14 with (fail)
        obtain ⟨nB, hnB⟩ : ∃ n, v16.heap.size = n := ⟨_, rfl⟩
        rw [hnB] at HRB ⊢
        clear hnB
        generalize v16.alloc (.cells (tcells 3 ta su dX aX (.slice AB U.length cB)) 58) = v17 at *
        have a1 := HRAn7hB.out.cell 1; have a2 := HRAn7hB.out.cell 2; have a4 := HRAn7hB.out.cell 4; have a5 := HRAn7hB.out.cell 5
        have b1 := HRB.out.cell 1; have b2 := HRB.out.cell 2; have b4 := HRB.out.cell 4; have b5 := HRB.out.cell 5; have x6 := HShB.out.r1.cell 6
        simp only [List.getElem?_toArray, List.getElem?_cons_zero, List.getElem?_cons_succ] at a1 a2 a4 a5 b1 b2 b4 b5 x6
        have q1 : (ta == ta) = true := by simp
        have q2 : (su == su) = true := by simp
        have q3 : (aX == aX) = true := by simp
        have q4 : ((su == ta) == x.wh) = true := by
          rw [beq_iff_eq, ← HSU.out]
          cases x.wh with
          | true => simp
          | false => have := HTT.out; simp; omega
        obtain ⟨bb, hbb⟩ : ∃ b, (su == ta) = b := ⟨_, rfl⟩
        rw [hbb] at q4
        go_wp2_with fail
        refine (ints_any v17 v17.heap.size _ _ U U HTAn7hB.out HThB.out (by have := HUL.out; omega)).mono ?_; rintro e w18 ⟨rfl, k18, rfl⟩
        rw [show decide (U = U) = true from decide_eq_true rfl]
        have HBZ : Hid (Below w.heap.size w (v17.drewN k18)) := Below.drewN HShB.out.bel _
        go_wp2_with fail
        go_ret
        exact ⟨rfl, HBZ.out⟩
      · have h13i : (12 : Int) < (y.ts.length : Int) := by omega
        have h13n : 12 < y.ts.length := by omega
        go_enter Try.func5, Try.ntmps5
        go_upto_region 1 with (fail)
        obtain ⟨g0, hg0⟩ : ∃ n, w.heap.size = n := ⟨_, rfl⟩
        obtain ⟨g1, hg1⟩ : ∃ n, g0 + 1 = n := ⟨_, rfl⟩
        obtain ⟨g2, hg2⟩ : ∃ n, g1 + 1 = n := ⟨_, rfl⟩
        rw [hg0] at HRW HRX HRY ⊢
        rw [hg1] at HRX HRY ⊢
        rw [hg2] at HRY ⊢
        have HG0 : Hid (w.heap.size = g0 ∧ g0 + 1 = g1 ∧ g1 + 1 = g2) := ⟨hg0, hg1, hg2⟩
        clear hg0 hg1 hg2
        generalize ((w.alloc (.cells #[.int .u8 (d0.form : Int), .int .u8 (d0.len : Int), .int .u8 (d0.speed : Int), .int .u16 (d0.mute : Int), .int .u16 (d0.wait : Int), .int .u8 (d0.cancel : Int), .int .u8 (d0.stay : Int), .int .u8 (d0.join : Int), .slice Ar kr cr] 25)).alloc (.cells #[.int .u8 (x.do_ : Int), .int .u8 (x.id : Int), .int .u8 (x.tk : Int), .int .u8 (x.fr : Int), .slice At x.ts.length ct, .int .u16 (x.ah : Int), .bool x.wh, .int .u8 (x.mo : Int)] 28)).alloc (.cells #[.int .u8 (y.do_ : Int), .int .u8 (y.id : Int), .int .u8 (y.tk : Int), .int .u8 (y.fr : Int), .slice As y.ts.length cs, .int .u16 (y.ah : Int), .bool y.wh, .int .u8 (y.mo : Int)] 28) = W0 at *
        go_wp2_with fail
        refine (nothing_any _).mono ?_; rintro e wA ⟨rfl, hbA⟩
        have HA := Lib.hid (HB0.out.trans (hbA.mono HB0.out.size))
        have HRA := Lib.hid (Below.row hbA HRW.out HRW.out.lt)
        have HXA := Lib.hid (Below.row hbA HRX.out HRX.out.lt)
        have HYA := Lib.hid (Below.row hbA HRY.out HRY.out.lt)
        clear hbA HB0 HRW HRX HRY
        have f0 := HRA.out.cell 0; have f1 := HRA.out.cell 1; have f2 := HRA.out.cell 2; have f3 := HRA.out.cell 3; have f4 := HRA.out.cell 4; have f5 := HRA.out.cell 5; have f6 := HRA.out.cell 6; have f7 := HRA.out.cell 7; have f8 := HRA.out.cell 8
        simp only [List.getElem?_toArray, List.getElem?_cons_zero, List.getElem?_cons_succ] at f0 f1 f2 f3 f4 f5 f6 f7 f8
        go_wp2_with fail
        refine (small_any wA d0 (.slice Ar kr cr) (HBR.out.up HA.out) HL.out.1 HL.out.2).mono ?_; rintro e wB ⟨rfl, hbB⟩
        clear f0 f1 f2 f3 f4 f5 f6 f7 f8
        rw [hs]
        have HB := Lib.hid (HA.out.trans (hbB.mono HA.out.size))
        have HRB := Lib.hid (Below.row hbB HRA.out HRA.out.lt)
        have HXB := Lib.hid (Below.row hbB HXA.out HXA.out.lt)
        have HYB := Lib.hid (Below.row hbB HYA.out HYA.out.lt)
        clear hbB HA HRA HXA HYA
        have x4 := HXB.out.cell 4; have y4 := HYB.out.cell 4
        simp only [List.getElem?_toArray, List.getElem?_cons_zero, List.getElem?_cons_succ] at x4 y4
        go_wp2_with fail
        refine (nothing_any _).mono ?_; rintro e wZ ⟨rfl, hbZ⟩
        have HZ := Lib.hid (HB.out.trans (hbZ.mono HB.out.size))
        clear hbZ
        go_wp2_with fail
        go_ret
        exact ⟨rfl, HZ.out⟩
    · have h12i : (12 : Int) < (x.ts.length : Int) := by omega
      have h12n : 12 < x.ts.length := by omega
      go_enter Try.func5, Try.ntmps5
      go_upto_region 1 with (fail)
      obtain ⟨g0, hg0⟩ : ∃ n, w.heap.size = n := ⟨_, rfl⟩
      obtain ⟨g1, hg1⟩ : ∃ n, g0 + 1 = n := ⟨_, rfl⟩
      obtain ⟨g2, hg2⟩ : ∃ n, g1 + 1 = n := ⟨_, rfl⟩
      rw [hg0] at HRW HRX HRY ⊢
      rw [hg1] at HRX HRY ⊢
      rw [hg2] at HRY ⊢
      have HG0 : Hid (w.heap.size = g0 ∧ g0 + 1 = g1 ∧ g1 + 1 = g2) := ⟨hg0, hg1, hg2⟩
      clear hg0 hg1 hg2
      generalize ((w.alloc (.cells #[.int .u8 (d0.form : Int), .int .u8 (d0.len : Int), .int .u8 (d0.speed : Int), .int .u16 (d0.mute : Int), .int .u16 (d0.wait : Int), .int .u8 (d0.cancel : Int), .int .u8 (d0.stay : Int), .int .u8 (d0.join : Int), .slice Ar kr cr] 25)).alloc (.cells #[.int .u8 (x.do_ : Int), .int .u8 (x.id : Int), .int .u8 (x.tk : Int), .int .u8 (x.fr : Int), .slice At x.ts.length ct, .int .u16 (x.ah : Int), .bool x.wh, .int .u8 (x.mo : Int)] 28)).alloc (.cells #[.int .u8 (y.do_ : Int), .int .u8 (y.id : Int), .int .u8 (y.tk : Int), .int .u8 (y.fr : Int), .slice As y.ts.length cs, .int .u16 (y.ah : Int), .bool y.wh, .int .u8 (y.mo : Int)] 28) = W0 at *
      go_wp2_with fail
      refine (nothing_any _).mono ?_; rintro e wA ⟨rfl, hbA⟩
      have HA := Lib.hid (HB0.out.trans (hbA.mono HB0.out.size))
      have HRA := Lib.hid (Below.row hbA HRW.out HRW.out.lt)
      have HXA := Lib.hid (Below.row hbA HRX.out HRX.out.lt)
      have HYA := Lib.hid (Below.row hbA HRY.out HRY.out.lt)
      clear hbA HB0 HRW HRX HRY
      have f0 := HRA.out.cell 0; have f1 := HRA.out.cell 1; have f2 := HRA.out.cell 2; have f3 := HRA.out.cell 3; have f4 := HRA.out.cell 4; have f5 := HRA.out.cell 5; have f6 := HRA.out.cell 6; have f7 := HRA.out.cell 7; have f8 := HRA.out.cell 8
      simp only [List.getElem?_toArray, List.getElem?_cons_zero, List.getElem?_cons_succ] at f0 f1 f2 f3 f4 f5 f6 f7 f8
      go_wp2_with fail
      refine (small_any wA d0 (.slice Ar kr cr) (HBR.out.up HA.out) HL.out.1 HL.out.2).mono ?_; rintro e wB ⟨rfl, hbB⟩
      clear f0 f1 f2 f3 f4 f5 f6 f7 f8
      rw [hs]
      have HB := Lib.hid (HA.out.trans (hbB.mono HA.out.size))
      have HRB := Lib.hid (Below.row hbB HRA.out HRA.out.lt)
      have HXB := Lib.hid (Below.row hbB HXA.out HXA.out.lt)
      have HYB := Lib.hid (Below.row hbB HYA.out HYA.out.lt)
      clear hbB HA HRA HXA HYA
      have x4 := HXB.out.cell 4; have y4 := HYB.out.cell 4
      simp only [List.getElem?_toArray, List.getElem?_cons_zero, List.getElem?_cons_succ] at x4 y4
      go_wp2_with fail
      refine (nothing_any _).mono ?_; rintro e wZ ⟨rfl, hbZ⟩
      have HZ := Lib.hid (HB.out.trans (hbZ.mono HB.out.size))
      clear hbZ
      go_wp2_with fail
      go_ret
      exact ⟨rfl, HZ.out⟩

end Go.Proofs.Ytifcgkpannlnnaa
