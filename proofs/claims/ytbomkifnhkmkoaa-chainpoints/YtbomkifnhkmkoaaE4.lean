/- The law ChainPoints. -/
import Derived.Test.YtbomkifnhkmkoaaD1
import Derived.Test.YtbomkifnhkmkoaaP1
namespace Go.Proofs.Ytbomkifnhkmkoaa
open Go.RowKit Fl
set_option maxRecDepth 100000

theorem Try.info4n : (Try.prog.info? 4).map (fun i => (i.zero, i.size, i.bytes)) = some (some (.bool false), 1, 1) := by kernel_rfl
theorem made_bools (n : Nat) : madeCells (Value.bool false).cells (n * 1) = (cvals (List.replicate n false)).toArray := by
  apply Array.ext
  · simp [madeCells, cvals]
  · intro i h1 h2
    simp [madeCells, cvals, Value.cells, Nat.mod_one]
theorem make_bools (n : Nat) (hn : n ≤ 1000) (w : World) :
    (Instr.makeSlice 27 (.int .i64 (n : Int)) (.int .i64 (n : Int))).run Try.prog w = .ok (.slice (some ⟨w.heap.size, 0, none⟩) n n) (w.alloc (.cells (cvals (List.replicate n false)).toArray 4)) := by
  obtain ⟨i0, hi, hz0, hz1, hz2⟩ := info_parts Try.info4n
  have h := run_make (P := Try.prog) w 27 4 i0 (.bool false) Try.underlying27 hi hz0 .i64 .i64 (n : Int) (n : Int) (by omega) (Int.le_refl _) (by rw [hz2]; omega) (by omega)
  rw [hz1, Int.toNat_natCast, made_bools] at h
  exact h
/-- Number i is taken first; its slot. -/
theorem anybut_take {P : Program} {md : Region.Mode} {ops : Array Oper} {Q : Exit → Act → World → Prop} {S : World → Prop} {t : Nat} (i k : Nat) {oi : Oper} {v : Value} {n : Nat} {L : Array Bool} {a : Act} {w : World} (hi : ops[i]? = some oi) (hd : oi.dst = some k) (hs : Region.noSelect ops = true)
    (hf : Region.free md ops L i = true) (hr : (Region.ready md ops L).contains i = true)
    (ht : ((ops[t]?).all fun o => o.after.any fun e => Region.binds md e && e.on == i) = true) (hit : i ≠ t)
    (hQ : ∀ c a w, Q (.panic c) (a.put oi.dst v) w → Q (.panic c) a w) (hy : YieldsIf P ops S oi v a) (hS : S w)
    (h : AnyBut P md ops Q S t n (L.setIfInBounds i true) (a.put (some k) v) w) : AnyBut P md ops Q S t (n + 1) L a w :=
  AnyBut.take i hi hs hf hr ht hit hQ hy hS (by rw [hd]; exact h)
theorem three_pt {z0 z1 z2 z3 u : Int} (h : PT (z0, z1, z2, z3) u) : ((u == z2) = true) ∨ ((u == z2) = false ∧ (u == z3) = true) ∨ ((u == z2) = false ∧ (u == z3) = false ∧ (u == z1) = true) := by
  have h' : u = z2 ∨ u = z3 ∨ u = z1 := h
  by_cases h1 : u = z2
  · exact Or.inl (by simpa using h1)
  · by_cases h2 : u = z3
    · exact Or.inr (Or.inl ⟨by simpa using h1, by simpa using h2⟩)
    · exact Or.inr (Or.inr ⟨by simpa using h1, by simpa using h2, by simpa using (h'.resolve_left h1).resolve_left h2⟩)
theorem cvals_set (l : List Bool) (q : Nat) (b : Bool) : (cvals l).toArray.setIfInBounds q (.bool b) = (cvals (l.set q b)).toArray := by
  simp [cvals, List.map_set]

set_option maxHeartbeats 16000000 in
theorem lawPoints (w : World) (d : Dr) (vr : Value) (x : Sp) (At : Option Addr) (ct : Nat) (Ar : Option Addr) (cr : Nat) (at_ : Nat) (hat : at_ < 256) (hd : DrOk d) (hbr : BRows w w.heap.size vr d.routes) (hl : d.routes.length ≤ 9223372036854775807) (hrl : ∀ r ∈ d.routes, r.length ≤ 9223372036854775807)
    (hx : SpOk x) (ht : Rd w w.heap.size (.slice At x.ts.length ct) (bvals x.ts)) (hri : Rd w w.heap.size (.slice Ar x.ri.length cr) (cvals x.ri)) :
    Calls Try.prog 8 #[drV d vr, spV x (.slice At x.ts.length ct) (.slice Ar x.ri.length cr), .int .u8 (at_ : Int)] w (RetL true w) := by
  obtain ⟨Ad, kd, cd, hvr⟩ : ∃ A k c, vr = .slice A k c := by obtain ⟨vs, ⟨A, c, e, _⟩, _⟩ := hbr; exact ⟨A, _, c, e⟩
  subst hvr
  have HSM : Hid (∀ W, Below w.heap.size w W → Calls Try.prog 10 #[.agg #[.int .u8 (d.form : Int), .int .u8 (d.len : Int), .int .u8 (d.speed : Int), .int .u16 (d.mute : Int), .int .u16 (d.wait : Int), .int .u8 (d.cancel : Int), .int .u8 (d.stay : Int), .int .u8 (d.join : Int), .slice Ad kd cd], .agg #[.int .u8 (x.fr : Int), .int .u8 (x.lo : Int), .slice At x.ts.length ct, .int .u16 (x.ah : Int), .int .u16 (x.he : Int), .int .u16 (x.tk : Int), .int .u16 (x.sp : Int), .slice Ar x.ri.length cr]] W (RetL (smallX d x) W)) := fun W hW => smallX_any W d (.slice Ad kd cd) x At ct Ar cr (hbr.up hW) hl hrl
  have HOF : Hid (smallX d x = true → ∀ W, Below w.heap.size w W → Calls Try.prog 11 #[.agg #[.int .u8 (d.form : Int), .int .u8 (d.len : Int), .int .u8 (d.speed : Int), .int .u16 (d.mute : Int), .int .u16 (d.wait : Int), .int .u8 (d.cancel : Int), .int .u8 (d.stay : Int), .int .u8 (d.join : Int), .slice Ad kd cd], .agg #[.int .u8 (x.fr : Int), .int .u8 (x.lo : Int), .slice At x.ts.length ct, .int .u16 (x.ah : Int), .int .u16 (x.he : Int), .int .u16 (x.tk : Int), .int .u16 (x.sp : Int), .slice Ar x.ri.length cr]] W (RetOf (fullL d) x W)) := fun hs W hW => by
    unfold smallX at hs
    rw [Bool.and_eq_true, Bool.and_eq_true, decide_eq_true_iff, decide_eq_true_iff] at hs
    exact of_any W d (.slice Ad kd cd) x At ct Ar cr hd (hbr.up hW) hs.1 hx ((ht.below hW (Nat.le_refl _)).mono hW.size (fun _ _ => rfl)) (by omega)
  have HLF := Lib.hid (full_f d)
  have HTRA : Hid (Tra (fullL d) (repT (fullL d) x.fr x.lo x.ts) (1 - ((x.fr / 128 : Nat) : Int))) := rep_tra (tame_full d) x.fr x.lo x.ts (full_secs d).1 hx.fr
  have HNUM : Hid ((0 ≤ (x.he : Int) ∧ (x.he : Int) < 65536) ∧ (0 ≤ (x.tk : Int) ∧ (x.tk : Int) < 65536) ∧ (0 ≤ ((x.sp % 10001 : Nat) : Int) ∧ ((x.sp % 10001 : Nat) : Int) ≤ 10000) ∧ (0 ≤ ((repA (fullL d) x.fr x.ah : Nat) : Int) ∧ ((repA (fullL d) x.fr x.ah : Nat) : Int) < 65536)) := by
    have h1 := hx.he; have h2 := hx.tk; have h3 := hx.ah
    have h4 : repA (fullL d) x.fr x.ah ≤ x.ah := Nat.mod_le _ _
    show (_ ∧ _) ∧ (_ ∧ _) ∧ (_ ∧ _) ∧ (_ ∧ _)
    omega
  have HRI := Lib.hid hri
  clear hbr hl hrl hx ht hri hd
  unfold drV spV
  have HB0 := Lib.hid (below2 w (.cells #[.int .u8 (d.form : Int), .int .u8 (d.len : Int), .int .u8 (d.speed : Int), .int .u16 (d.mute : Int), .int .u16 (d.wait : Int), .int .u8 (d.cancel : Int), .int .u8 (d.stay : Int), .int .u8 (d.join : Int), .slice Ad kd cd] 25) (.cells #[.int .u8 (x.fr : Int), .int .u8 (x.lo : Int), .slice At x.ts.length ct, .int .u16 (x.ah : Int), .int .u16 (x.he : Int), .int .u16 (x.tk : Int), .int .u16 (x.sp : Int), .slice Ar x.ri.length cr] 29))
  have HRD := Lib.hid ((Row.new w 25 #[.int .u8 (d.form : Int), .int .u8 (d.len : Int), .int .u8 (d.speed : Int), .int .u16 (d.mute : Int), .int .u16 (d.wait : Int), .int .u8 (d.cancel : Int), .int .u8 (d.stay : Int), .int .u8 (d.join : Int), .slice Ad kd cd]).alloc (.cells #[.int .u8 (x.fr : Int), .int .u8 (x.lo : Int), .slice At x.ts.length ct, .int .u16 (x.ah : Int), .int .u16 (x.he : Int), .int .u16 (x.tk : Int), .int .u16 (x.sp : Int), .slice Ar x.ri.length cr] 29))
  have hr1 := Row.new (w.alloc (.cells #[.int .u8 (d.form : Int), .int .u8 (d.len : Int), .int .u8 (d.speed : Int), .int .u16 (d.mute : Int), .int .u16 (d.wait : Int), .int .u8 (d.cancel : Int), .int .u8 (d.stay : Int), .int .u8 (d.join : Int), .slice Ad kd cd] 25)) 29 #[.int .u8 (x.fr : Int), .int .u8 (x.lo : Int), .slice At x.ts.length ct, .int .u16 (x.ah : Int), .int .u16 (x.he : Int), .int .u16 (x.tk : Int), .int .u16 (x.sp : Int), .slice Ar x.ri.length cr]
  rw [World.size_alloc] at hr1
  have HRX := Lib.hid hr1
  clear hr1
  obtain ⟨tn, htn⟩ : ∃ n, x.ts.length = n := ⟨_, rfl⟩
  rw [htn] at HSM HOF HB0 HRD HRX ⊢
  generalize fullL d = L at *
  obtain ⟨T, hT⟩ : ∃ T, repT L x.fr x.lo x.ts = T := ⟨_, rfl⟩
  have HTT : Hid (repT L x.fr x.lo x.ts = T) := hT
  rw [hT] at HTRA
  clear hT
  obtain ⟨R, hR⟩ : ∃ R, x.ri = R := ⟨_, rfl⟩
  rw [hR] at HSM HOF HB0 HRD HRX HRI ⊢
  cases hs : smallX d x with
  | false =>
    go_enter Try.func8, Try.ntmps8
    go_upto_region 1 with (fail)
    obtain ⟨n0, hn0⟩ : ∃ n, n = w.heap.size := ⟨_, rfl⟩
    obtain ⟨n1, hn1⟩ : ∃ n, n = n0 + 1 := ⟨_, rfl⟩
    have HN : Hid (n0 = w.heap.size) := hn0
    rw [← hn0] at HRD HRX ⊢
    rw [← hn1] at HRX ⊢
    clear hn0 hn1
    generalize (w.alloc (.cells #[.int .u8 (d.form : Int), .int .u8 (d.len : Int), .int .u8 (d.speed : Int), .int .u16 (d.mute : Int), .int .u16 (d.wait : Int), .int .u8 (d.cancel : Int), .int .u8 (d.stay : Int), .int .u8 (d.join : Int), .slice Ad kd cd] 25)).alloc (.cells #[.int .u8 (x.fr : Int), .int .u8 (x.lo : Int), .slice At tn ct, .int .u16 (x.ah : Int), .int .u16 (x.he : Int), .int .u16 (x.tk : Int), .int .u16 (x.sp : Int), .slice Ar R.length cr] 29) = W0 at *
    go_wp2_with fail
    refine (later_any W0).mono ?_; rintro e wA ⟨rfl, hbA⟩
    have HA := Lib.hid (HB0.out.trans (hbA.mono HB0.out.size))
    have HDA := Lib.hid (Below.row hbA HRD.out HRD.out.lt)
    have HXA := Lib.hid (Below.row hbA HRX.out HRX.out.lt)
    clear hbA HB0 HRD HRX
    have f0 := HDA.out.cell 0; have f1 := HDA.out.cell 1; have f2 := HDA.out.cell 2; have f3 := HDA.out.cell 3; have f4 := HDA.out.cell 4; have f5 := HDA.out.cell 5; have f6 := HDA.out.cell 6; have f7 := HDA.out.cell 7; have f8 := HDA.out.cell 8
    simp only [List.getElem?_toArray, List.getElem?_cons_zero, List.getElem?_cons_succ] at f0 f1 f2 f3 f4 f5 f6 f7 f8
    have x0 := HXA.out.cell 0; have x1 := HXA.out.cell 1; have x2 := HXA.out.cell 2; have x3 := HXA.out.cell 3; have x4 := HXA.out.cell 4; have x5 := HXA.out.cell 5; have x6 := HXA.out.cell 6; have x7 := HXA.out.cell 7
    simp only [List.getElem?_toArray, List.getElem?_cons_zero, List.getElem?_cons_succ] at x0 x1 x2 x3 x4 x5 x6 x7
    go_wp2_with fail
    refine (HSM.out wA HA.out).mono ?_; rintro e wB ⟨rfl, hbB⟩
    rw [hs]
    have HB := Lib.hid (HA.out.trans (hbB.mono HA.out.size))
    clear hbB f0 f1 f2 f3 f4 f5 f6 f7 f8 x0 x1 x2 x3 x4 x5 x6 x7 HA HDA HXA
    go_wp2_with fail
    refine (later_any wB).mono ?_; rintro e wZ ⟨rfl, hbZ⟩
    have HZ := Lib.hid (HB.out.trans (hbZ.mono HB.out.size))
    clear hbZ
    go_wp2_with fail
    go_ret
    exact ⟨rfl, HZ.out⟩
  | true =>
    go_enter Try.func8, Try.ntmps8
    go_upto_region 1 with (fail)
    obtain ⟨n0, hn0⟩ : ∃ n, n = w.heap.size := ⟨_, rfl⟩
    obtain ⟨n1, hn1⟩ : ∃ n, n = n0 + 1 := ⟨_, rfl⟩
    have HN : Hid (n0 = w.heap.size) := hn0
    rw [← hn0] at HRD HRX ⊢
    rw [← hn1] at HRX ⊢
    clear hn0 hn1
    generalize (w.alloc (.cells #[.int .u8 (d.form : Int), .int .u8 (d.len : Int), .int .u8 (d.speed : Int), .int .u16 (d.mute : Int), .int .u16 (d.wait : Int), .int .u8 (d.cancel : Int), .int .u8 (d.stay : Int), .int .u8 (d.join : Int), .slice Ad kd cd] 25)).alloc (.cells #[.int .u8 (x.fr : Int), .int .u8 (x.lo : Int), .slice At tn ct, .int .u16 (x.ah : Int), .int .u16 (x.he : Int), .int .u16 (x.tk : Int), .int .u16 (x.sp : Int), .slice Ar R.length cr] 29) = W0 at *
    go_wp2_with fail
    refine (later_any W0).mono ?_; rintro e wA ⟨rfl, hbA⟩
    have HA := Lib.hid (HB0.out.trans (hbA.mono HB0.out.size))
    have HDA := Lib.hid (Below.row hbA HRD.out HRD.out.lt)
    have HXA := Lib.hid (Below.row hbA HRX.out HRX.out.lt)
    clear hbA HB0 HRD HRX
    have f0 := HDA.out.cell 0; have f1 := HDA.out.cell 1; have f2 := HDA.out.cell 2; have f3 := HDA.out.cell 3; have f4 := HDA.out.cell 4; have f5 := HDA.out.cell 5; have f6 := HDA.out.cell 6; have f7 := HDA.out.cell 7; have f8 := HDA.out.cell 8
    simp only [List.getElem?_toArray, List.getElem?_cons_zero, List.getElem?_cons_succ] at f0 f1 f2 f3 f4 f5 f6 f7 f8
    have x0 := HXA.out.cell 0; have x1 := HXA.out.cell 1; have x2 := HXA.out.cell 2; have x3 := HXA.out.cell 3; have x4 := HXA.out.cell 4; have x5 := HXA.out.cell 5; have x6 := HXA.out.cell 6; have x7 := HXA.out.cell 7
    simp only [List.getElem?_toArray, List.getElem?_cons_zero, List.getElem?_cons_succ] at x0 x1 x2 x3 x4 x5 x6 x7
    go_wp2_with fail
    refine (HSM.out wA HA.out).mono ?_; rintro e wB ⟨rfl, hbB⟩
    rw [hs]
    have HB := Lib.hid (HA.out.trans (hbB.mono HA.out.size))
    have HDB := Lib.hid (Below.row hbB HDA.out HDA.out.lt)
    have HXB := Lib.hid (Below.row hbB HXA.out HXA.out.lt)
    clear hbB f0 f1 f2 f3 f4 f5 f6 f7 f8 x0 x1 x2 x3 x4 x5 x6 x7 HA HDA HXA HSM
    have f0 := HDB.out.cell 0; have f1 := HDB.out.cell 1; have f2 := HDB.out.cell 2; have f3 := HDB.out.cell 3; have f4 := HDB.out.cell 4; have f5 := HDB.out.cell 5; have f6 := HDB.out.cell 6; have f7 := HDB.out.cell 7; have f8 := HDB.out.cell 8
    simp only [List.getElem?_toArray, List.getElem?_cons_zero, List.getElem?_cons_succ] at f0 f1 f2 f3 f4 f5 f6 f7 f8
    have x0 := HXB.out.cell 0; have x1 := HXB.out.cell 1; have x2 := HXB.out.cell 2; have x3 := HXB.out.cell 3; have x4 := HXB.out.cell 4; have x5 := HXB.out.cell 5; have x6 := HXB.out.cell 6; have x7 := HXB.out.cell 7
    simp only [List.getElem?_toArray, List.getElem?_cons_zero, List.getElem?_cons_succ] at x0 x1 x2 x3 x4 x5 x6 x7
    go_wp2_with fail
    refine (HOF.out hs wB HB.out).mono ?_; rintro e' wC ⟨vL, A, c, rfl, hvL, hrd, hbC⟩
    clear f0 f1 f2 f3 f4 f5 f6 f7 f8 x0 x1 x2 x3 x4 x5 x6 x7
    obtain ⟨he, hhe⟩ : ∃ z : Int, (x.he : Int) = z := ⟨_, rfl⟩
    obtain ⟨tk, htk⟩ : ∃ z : Int, (x.tk : Int) = z := ⟨_, rfl⟩
    obtain ⟨s8, hs8⟩ : ∃ z : Int, ((x.sp % 10001 : Nat) : Int) = z := ⟨_, rfl⟩
    obtain ⟨e, hee⟩ : ∃ z : Int, ((repA L x.fr x.ah : Nat) : Int) = z := ⟨_, rfl⟩
    obtain ⟨dv, hdv⟩ : ∃ z : Int, 1 - ((x.fr / 128 : Nat) : Int) = z := ⟨_, rfl⟩
    have HT2 : Hid (repT L x.fr x.lo x.ts = T) := HTT.out
    rw [HT2.out] at hrd ⊢
    rw [hhe, htk, hs8, hee] at HNUM
    rw [hdv] at HTRA
    rw [hdv, hhe, htk, hs8, hee]
    obtain ⟨nw, hnw⟩ : ∃ z : Int, he + tk = z := ⟨_, rfl⟩
    rw [hnw]
    obtain ⟨A0, k0, c0, A1, k1, c1, A2, k2, c2, A3, k3, c3, A4, k4, c4, t0, t1, t2, t3, t4, hv, hlens⟩ := hvL.lens
    subst hv
    have HLENS := Lib.hid hlens
    have hba := ((Below.refl wC.heap.size wC).alloc (Nat.le_refl _) (.cells #[.slice A0 k0 c0, .slice A1 k1 c1, .slice A2 k2 c2, .slice A3 k3 c3, .slice A4 k4 c4, .int .i64 t0, .int .i64 t1, .int .i64 t2, .int .i64 t3, .int .i64 t4] 37)).alloc (by simp) (.cells (tcells 4 he (-1) dv e (.slice A T.length c)) 40)
    have hbb := hba.alloc hba.size (.cells (tcells 4 he (-1) dv e (.slice A T.length c)) 41)
    have HB1 := Lib.hid (HB.out.trans ((hbC.trans (hbb.mono hbC.size)).mono HB.out.size))
    have HXL : Hid (n1 < wC.heap.size) := by have h1 := HXB.out.lt; have h2 := hbC.size; show _ < _; omega
    have HX1 := Lib.hid (Below.row (hbC.trans (hbb.mono hbC.size)) HXB.out HXB.out.lt)
    have HV1 := Lib.hid (hvL.up hbb)
    have HT1 := Lib.hid (hrd.up hbb)
    have hy1 := ((Row.new wC 37 #[.slice A0 k0 c0, .slice A1 k1 c1, .slice A2 k2 c2, .slice A3 k3 c3, .slice A4 k4 c4, .int .i64 t0, .int .i64 t1, .int .i64 t2, .int .i64 t3, .int .i64 t4]).alloc (.cells (tcells 4 he (-1) dv e (.slice A T.length c)) 40)).alloc (.cells (tcells 4 he (-1) dv e (.slice A T.length c)) 41)
    have hy2 := (Row.new (wC.alloc (.cells #[.slice A0 k0 c0, .slice A1 k1 c1, .slice A2 k2 c2, .slice A3 k3 c3, .slice A4 k4 c4, .int .i64 t0, .int .i64 t1, .int .i64 t2, .int .i64 t3, .int .i64 t4] 37)) 40 (tcells 4 he (-1) dv e (.slice A T.length c))).alloc (.cells (tcells 4 he (-1) dv e (.slice A T.length c)) 41)
    have hy3 := Row.new ((wC.alloc (.cells #[.slice A0 k0 c0, .slice A1 k1 c1, .slice A2 k2 c2, .slice A3 k3 c3, .slice A4 k4 c4, .int .i64 t0, .int .i64 t1, .int .i64 t2, .int .i64 t3, .int .i64 t4] 37)).alloc (.cells (tcells 4 he (-1) dv e (.slice A T.length c)) 40)) 41 (tcells 4 he (-1) dv e (.slice A T.length c))
    rw [World.size_alloc] at hy2
    rw [World.size_alloc, World.size_alloc] at hy3
    have HL1 := Lib.hid hy1; have HTT1 := Lib.hid hy2; have HRR1 := Lib.hid hy3
    clear hba hbb hbC hvL hrd hy1 hy2 hy3 hlens HB HDB HXB HOF
    go_upto_region 4 with (fail)
    obtain ⟨nL, hnL⟩ : ∃ n, n = wC.heap.size := ⟨_, rfl⟩
    obtain ⟨nT, hnT⟩ : ∃ n, n = nL + 1 := ⟨_, rfl⟩
    obtain ⟨nR, hnR⟩ : ∃ n, n = nT + 1 := ⟨_, rfl⟩
    rw [← hnL] at HL1 HTT1 HRR1 ⊢
    rw [← hnT] at HTT1 HRR1 ⊢
    rw [← hnR] at HRR1 ⊢
    have HNB : Hid (n1 < nL ∧ nT = nL + 1 ∧ nR = nT + 1) := ⟨by have := HXL.out; omega, hnT, hnR⟩
    clear hnL hnT hnR
    generalize ((wC.alloc (.cells #[.slice A0 k0 c0, .slice A1 k1 c1, .slice A2 k2 c2, .slice A3 k3 c3, .slice A4 k4 c4, .int .i64 t0, .int .i64 t1, .int .i64 t2, .int .i64 t3, .int .i64 t4] 37)).alloc (.cells (tcells 4 he (-1) dv e (.slice A T.length c)) 40)).alloc (.cells (tcells 4 he (-1) dv e (.slice A T.length c)) 41) = wD at *
    by_cases hk : k3 = 0
    · have hk0 : ((k3 : Int) == 0) = true := by rw [hk]; rfl
      have p0 := HL1.out.cell 0; have p1 := HL1.out.cell 1; have p2 := HL1.out.cell 2; have p3 := HL1.out.cell 3; have p4 := HL1.out.cell 4; have p5 := HL1.out.cell 5; have p6 := HL1.out.cell 6; have p7 := HL1.out.cell 7; have p8 := HL1.out.cell 8; have p9 := HL1.out.cell 9
      simp only [List.getElem?_toArray, List.getElem?_cons_zero, List.getElem?_cons_succ] at p0 p1 p2 p3 p4 p5 p6 p7 p8 p9
      go_wp2_with fail
      go_ret
      exact ⟨rfl, HB1.out⟩
    · have hk0 : ((k3 : Int) == 0) = false := by rw [beq_eq_false_iff_ne]; omega
      have hk1 : ¬ (k3 : Int) = 0 := by omega
      have p0 := HL1.out.cell 0; have p1 := HL1.out.cell 1; have p2 := HL1.out.cell 2; have p3 := HL1.out.cell 3; have p4 := HL1.out.cell 4; have p5 := HL1.out.cell 5; have p6 := HL1.out.cell 6; have p7 := HL1.out.cell 7; have p8 := HL1.out.cell 8; have p9 := HL1.out.cell 9
      simp only [List.getElem?_toArray, List.getElem?_cons_zero, List.getElem?_cons_succ] at p0 p1 p2 p3 p4 p5 p6 p7 p8 p9
      go_upto_region 6 with (fail)
      go_wp2_with fail
      refine (new_any wD _ L HV1.out HLF.out.fits).mono ?_; rintro e' wE ⟨vg, rfl, hg, hbE⟩
      have HST : Hid (CSt w n1 nL nT nR #[.int .u8 (x.fr : Int), .int .u8 (x.lo : Int), .slice At tn ct, .int .u16 (x.ah : Int), .int .u16 (x.he : Int), .int .u16 (x.tk : Int), .int .u16 (x.sp : Int), .slice Ar R.length cr] #[.slice A0 k0 c0, .slice A1 k1 c1, .slice A2 k2 c2, .slice A3 k3 c3, .slice A4 k4 c4, .int .i64 t0, .int .i64 t1, .int .i64 t2, .int .i64 t3, .int .i64 t4] (tcells 4 he (-1) dv e (.slice A T.length c)) vg wE.heap.size L A c T Ar cr R wE) :=
        ⟨HB1.out.trans (hbE.mono HB1.out.size), Below.row hbE HX1.out HX1.out.lt, Below.row hbE HL1.out HL1.out.lt, Below.row hbE HTT1.out HTT1.out.lt, Below.row hbE HRR1.out HRR1.out.lt, HV1.out.up hbE, hg, HT1.out.up hbE, (HRI.out.below (HB1.out.trans (hbE.mono HB1.out.size)) (Nat.le_refl _)).mono (HB1.out.trans (hbE.mono HB1.out.size)).size (fun _ _ => rfl), Nat.le_refl _⟩
      clear hg hbE p0 p1 p2 p3 p4 p5 p6 p7 p8 p9 HB1 HX1 HL1 HTT1 HRR1 HV1 HT1 HRI HTT HT2
      generalize wE.heap.size = DG at *
      clear hhe htk hs8 hee hdv hs hR htn
      have HNW : Hid (he + tk = nw) := hnw
      clear hnw
      have HK3 : Hid (L.points.length = k3 ∧ k3 ≤ 100 ∧ 0 < k3) := ⟨HLENS.out.2.2.2, by have h1 := HLF.out.fits.q; have h2 := HLENS.out.2.2.2; omega, by omega⟩
      obtain ⟨B0, hB0⟩ : ∃ n, wE.heap.size = n := ⟨_, rfl⟩
      have HB0 : Hid (wE.heap.size = B0) := hB0
      have hmk := make_bools k3 (by have := HK3.out; omega)
      have p0 := HST.out.rl.cell 0; have p1 := HST.out.rl.cell 1; have p2 := HST.out.rl.cell 2; have p3 := HST.out.rl.cell 3; have p4 := HST.out.rl.cell 4; have p5 := HST.out.rl.cell 5; have p6 := HST.out.rl.cell 6; have p7 := HST.out.rl.cell 7; have p8 := HST.out.rl.cell 8; have p9 := HST.out.rl.cell 9
      simp only [List.getElem?_toArray, List.getElem?_cons_zero, List.getElem?_cons_succ] at p0 p1 p2 p3 p4 p5 p6 p7 p8 p9
      have hb9 := (Below.refl wE.heap.size wE).alloc (Nat.le_refl _) (.cells (cvals (List.replicate k3 false)).toArray 4)
      have HR1 : Hid (Below B0 wE (wE.alloc (.cells (cvals (List.replicate k3 false)).toArray 4)) ∧ Row (wE.alloc (.cells (cvals (List.replicate k3 false)).toArray 4)) B0 4 (cvals (List.replicate k3 false)).toArray) := by
        rw [← hB0]; exact ⟨hb9, Row.new wE 4 _⟩
      clear hb9
      go_upto_region 8 with (fail)
      clear p0 p1 p2 p3 p4 p5 p6 p7 p8 p9 hmk
      skip
      clear hB0
      generalize wE.alloc (.cells (cvals (List.replicate k3 false)).toArray 4) = w1 at *
      have HRE : Hid (∀ i, i < R.length → ∃ b o, Ar = some ⟨b, o, none⟩ ∧ ∀ V, Below B0 wE V → V.cell? ⟨b, o + i, none⟩ = some (.bool (R.getD i false))) := fun i hi => by
        obtain ⟨b, o, hA, hb, hc⟩ := HST.out.ri.at (i := i) (u := .bool (R.getD i false)) (by simp [cvals, List.getD, hi])
        exact ⟨b, o, hA, fun V hV => (hV.cell (p := ⟨b, o + i, none⟩) (by rw [← HB0.out]; exact hb)).trans hc⟩
      have HS7 : Hid (∀ V, Below B0 wE V → V.cell? ⟨n1, 7, none⟩ = some (.slice Ar R.length cr)) := fun V hV => (hV.cell (p := ⟨n1, 7, none⟩) (by rw [← HB0.out]; exact HST.out.rs.lt)).trans (HST.out.rs.cell 7)
      generalize hrl : R.length = rl at HRE HS7 ⊢
      have HRL : Hid (R.length = rl) := hrl
      clear hrl
      go_wp2_with fail
      go_loopw [14] (fun i9 wr => ∃ (i : Nat) (l : List Bool), i ≤ k3 ∧ i9 = .int .i64 i ∧ l.length = k3 ∧ Hid (Below B0 wE wr ∧ Row wr B0 4 (cvals l).toArray)) (fun i9 _ => k3 - (RowKit.intOf i9).toNat)
      case atStart => exact ⟨0, _, Nat.zero_le _, rfl, by simp, HR1.out⟩
      case round =>
        obtain ⟨i, l, hi, rfl, hll, HJ⟩ := hrel
        have s7 := HS7.out wr HJ.out.1
        go_upto_region 9 with (fail)
        go_cut [60] (fun v wx => v = .bool (decide (i < k3) && decide (i < rl)) ∧ wx = wr)
        case first =>
          by_cases h1 : i < k3
          · have h1i : (i : Int) < (k3 : Int) := by omega
            by_cases h2 : i < rl
            · have h2i : (i : Int) < (rl : Int) := by omega
              go_wp2_with fail
              go_meet
              case rel => exact ⟨by rw [decide_eq_true h1, decide_eq_true h2]; rfl, rfl⟩
            · have h2i : ¬ (i : Int) < (rl : Int) := by omega
              go_wp2_with fail
              go_meet
              case rel => exact ⟨by rw [decide_eq_true h1, decide_eq_false h2]; simp, rfl⟩
          · have h1i : ¬ (i : Int) < (k3 : Int) := by omega
            go_wp2_with fail
            go_meet
            case rel => exact ⟨by rw [decide_eq_false h1]; rfl, rfl⟩
        case rest =>
        obtain ⟨rfl, hw2⟩ := hcut
        have hw3 := hw2.symm
        subst hw3
        clear hw2
        cases hcc : (decide (i < k3) && decide (i < rl)) with
        | true =>
          rw [Bool.and_eq_true, decide_eq_true_iff, decide_eq_true_iff] at hcc
          obtain ⟨bb, oo, hAr, hcell⟩ := HRE.out i hcc.2
          have q0 := hcell wr HJ.out.1
          have HAR := Lib.hid hAr
          rw [hAr] at s7
          have c0 : wr.cell? ⟨B0, i, none⟩ = some (.bool (l.getD i false)) := by rw [HJ.out.2.cell i]; simp [cvals, List.getD, show i < l.length by omega]
          have z0 := HJ.out.2.frozen i
          have g1 : (i : Int) < (k3 : Int) := by omega
          have g2 : (i : Int) < (rl : Int) := by omega
          have g3 : ¬ (k3 : Int) ≤ (i : Int) := by omega
          have g4 := hcc.1; have g5 := hcc.2
          have hk100 : k3 ≤ 100 := HK3.out.2.1
          have HKI : Hid (i < k3 ∧ l.length = k3) := ⟨g4, hll⟩
          generalize R.getD i false = rb at *
          have HNX : Hid (Below B0 wE (wr.setCell ⟨B0, i, none⟩ (.bool rb)) ∧ Row (wr.setCell ⟨B0, i, none⟩ (.bool rb)) B0 4 (cvals (l.set i rb)).toArray) :=
            ⟨HJ.out.1.setCell (p := ⟨B0, i, none⟩) (Nat.le_refl _) _, by rw [← cvals_set]; exact HJ.out.2.set i _⟩
          go_wp2_with fail
          go_roundw
          case rel => exact ⟨i + 1, l.set i rb, by have := HKI.out; omega, by go_num, by rw [List.length_set]; exact HKI.out.2, HNX⟩
          case measure => have := HKI.out; simp [RowKit.intOf]; omega
        | false =>
          clear hcc s7
          obtain ⟨i4, hi4, hz40, hz41, hz42⟩ := info_parts Try.info4n
          obtain ⟨hk31, hk32, hk33⟩ := HK3.out
          have HLL : Hid (l.length = k3) := hll
          have hnews : ∀ (j : Nat) (u : Value), (cvals l)[j]? = some u → wr.cell? ((⟨B0, 0, none⟩ : Addr).add j) = some u := fun j u hu => by
            rw [show ((⟨B0, 0, none⟩ : Addr).add j) = ⟨B0, j, none⟩ by simp [Addr.add]; intro h; exact h.symm, HJ.out.2.cell j]
            simpa using hu
          have hsz : B0 ≤ wr.heap.size := Nat.le_of_lt HJ.out.2.lt
          go_wp2_with (at_builtin; refine wpList_append_own _ rfl (.const (.slice none 0 0)) (.tmp 71) 27 rfl wr.heap.size 4 i4 (.bool false) 1 1 Try.underlying27 hi4 hz40 hz41 hz42 rfl (by decide) _ 0 [] rfl (World.ownsRow_nil _ _ _ _) ⟨B0, 0, none⟩ k3 k3 (cvals l) rfl (by simp [cvals, HLL.out]) hnews (by intro u hu; simp only [cvals, List.mem_map] at hu; obtain ⟨b, _, rfl⟩ := hu; rfl) (by unfold maxLen; omega) (by omega) (Nat.le_refl _) ?_)
          intro v7 w7 hown7 hgrow7 _
          obtain ⟨A7, c7, hv7⟩ := own_slice hown7
          subst hv7
          have HB7 : Hid (Below B0 wE w7) := HJ.out.1.grown hgrow7 hsz (fun kk hkk => by simp [Value.ownBlock] at hkk)
          have HR7 : Hid (Row w7 B0 4 (cvals l).toArray) := HJ.out.2.grown hgrow7 (by simp [Value.ownBlock])
          obtain ⟨gT, cur, hA7, HT7⟩ : ∃ gT cur, A7 = some ⟨gT, 0, none⟩ ∧ Hid (Row w7 gT 4 cur ∧ (∀ j, j < k3 → cur[j]? = some (.bool (l.getD j false))) ∧ B0 < gT ∧ k3 ≤ c7) := by
            rcases hown7.2 with ⟨hv, _⟩ | ⟨g, cap, cur, hv, hg, hh, r⟩
            · injection hv with _ h2; omega
            · injection hv with h1 h2 h3
              subst h1 h3
              refine ⟨g, cur, rfl, hh, fun j hj => ?_, Nat.lt_of_lt_of_le HJ.out.2.lt hg, own_cap hown7⟩
              exact own_cur hown7 hh j _ (by simp [cvals, List.getD, show j < l.length by omega])
          subst hA7
          obtain ⟨K, hK⟩ : ∃ K, at_ % k3 = K := ⟨_, rfl⟩
          have hKl : K < k3 := by rw [← hK]; exact Nat.mod_lt _ hk33
          have f1e : (at_ : Int) % (k3 : Int) = (K : Int) := by rw [← hK]; exact (Int.natCast_emod _ _).symm
          have f1 : (at_ : Int).tmod (k3 : Int) = (K : Int) := by rw [Int.tmod_eq_emod_of_nonneg (by omega)]; exact f1e
          have hw1 : IntKind.i64.wrap (at_ : Int) = (at_ : Int) := IntWalk.i64_in _ (by omega)
          have hw2 : IntKind.i64.wrap (K : Int) = (K : Int) := IntWalk.i64_in _ (by omega)
          have hk3n : ¬ k3 = 0 := by omega
          have hk3i : ¬ (k3 : Int) = 0 := by omega
          have p3 : w7.cell? ⟨nL, 3, none⟩ = some (.slice A3 k3 c3) := (HB7.out.cell (p := ⟨nL, 3, none⟩) (by rw [← HB0.out]; exact HST.out.rl.lt)).trans (HST.out.rl.cell 3)
          clear hown7 hgrow7 hK hnews hi4 hz40 hz41 hz42 hsz
          go_upto_region 14 with (fail)
          clear p3 f1e f1 hw1 hw2 hk3n hk3i
          have u0 : w7.cell? ⟨gT, K, none⟩ = some (.bool (l.getD K false)) := by rw [HT7.out.1.cell K]; exact HT7.out.2.1 K hKl
          have z0 := HT7.out.1.frozen K
          have hK2 : (K : Int) < (k3 : Int) := by omega
          obtain ⟨lk, hlk⟩ : ∃ b, l.getD K false = b := ⟨_, rfl⟩
          have HLK : Hid (l.getD K false = lk) := hlk
          rw [hlk] at u0
          clear hlk
          have HB8 : Hid (Below B0 wE (w7.setCell ⟨gT, K, none⟩ (.bool (!lk)))) := HB7.out.setCell (p := ⟨gT, K, none⟩) (by have := HT7.out.2.2.1; show B0 ≤ gT; omega) _
          have HR8 : Hid (Rd (w7.setCell ⟨gT, K, none⟩ (.bool (!lk))) (w7.setCell ⟨gT, K, none⟩ (.bool (!lk))).heap.size (.slice (some ⟨B0, 0, none⟩) l.length k3) (cvals l)) := by
            have hr : Row (w7.setCell ⟨gT, K, none⟩ (.bool (!lk))) B0 4 (cvals l).toArray := HR7.out.far (p := ⟨gT, K, none⟩) (by have := HT7.out.2.2.1; show B0 ≠ gT; omega) _
            have hl := HLL.out
            refine ⟨some ⟨B0, 0, none⟩, k3, by simp [cvals], ⟨(fun e => by cases e), by simp [cvals]; omega⟩, fun _ => ⟨B0, 0, rfl, hr.lt, fun j u hu => ?_⟩⟩
            rw [Nat.zero_add, hr.cell j]; simpa using hu
          have HT8 : Hid (Rd (w7.setCell ⟨gT, K, none⟩ (.bool (!lk))) (w7.setCell ⟨gT, K, none⟩ (.bool (!lk))).heap.size (.slice (some ⟨gT, 0, none⟩) (l.set K (!lk)).length c7) (cvals (l.set K (!lk)))) := by
            have hr := HT7.out.1.set K (.bool (!lk))
            have hl := HLL.out
            refine ⟨some ⟨gT, 0, none⟩, c7, by simp [cvals], ⟨(fun e => by cases e), by simp [cvals]; have := HT7.out.2.2.2; omega⟩, fun _ => ⟨gT, 0, rfl, hr.lt, fun j u hu => ?_⟩⟩
            have hj : j < l.length := by have := (List.getElem?_eq_some_iff.1 hu).1; simpa [cvals] using this
            rw [Nat.zero_add, hr.cell j]
            have hs : K < cur.size := (Array.getElem?_eq_some_iff.1 (HT7.out.2.1 K hKl)).1
            by_cases e : j = K
            · subst e
              have e2 : u = .bool (!lk) := by simpa [cvals, hj] using hu.symm
              rw [e2, Array.getElem?_setIfInBounds_self, if_pos hs]
            · rw [Array.getElem?_setIfInBounds_ne (fun h => e h.symm), HT7.out.2.1 j (by omega)]
              have e2 : (l.set K (!lk))[j]? = some (l.getD j false) := by rw [List.getElem?_set_ne (fun h => e h.symm)]; simp [List.getD, hj]
              rw [← hu]
              unfold cvals
              rw [List.getElem?_map, e2]; rfl
          have HRR : Hid (∀ q, q ≠ K → l.getD q false = (l.set K (!lk)).getD q false) := fun q hq => by
            rw [List.getD, List.getD, List.getElem?_set_ne (fun h => hq h.symm)]
          go_upto_region 15 with (fail)
          clear u0 z0 hK2
          generalize w7.setCell ⟨gT, K, none⟩ (.bool (!lk)) = w8 at *
          have hl1 := HLL.out
          have hl2 : (l.set K (!lk)).length = k3 := by rw [List.length_set]; exact hl1
          obtain ⟨l', hl'⟩ : ∃ l', l.set K (!lk) = l' := ⟨_, rfl⟩
          rw [hl'] at HT8 HRR hl2
          rw [hl1] at HR8
          rw [hl2] at HT8
          clear hl' HT7 HB7 HR7 HLK HJ
          have hbw : Below wE.heap.size wE w8 := by rw [HB0.out]; exact HB8.out
          have HC8 := Lib.hid (HST.out.call hbw)
          have hbd := (Below.refl w8.heap.size w8).drew
          have HC0 := Lib.hid (HC8.out.call hbd)
          have HRl := Lib.hid (HR8.out.up hbd)
          have HRt := Lib.hid (HT8.out.up hbd)
          obtain ⟨hn1, hn2, hn3, hn4⟩ := HNUM.out
          obtain ⟨la, hla⟩ : ∃ U, spanL L l T dv (s8 * (nw - he) - e) = U := ⟨_, rfl⟩
          obtain ⟨lb, hlb⟩ : ∃ U, spanL L l' T dv (s8 * (nw - he) - e) = U := ⟨_, rfl⟩
          have HDV : Hid (Dv (L.points.getD K (0, 0, 0, 0)) T.length la.reverse lb.reverse) := by rw [← hla, ← hlb]; exact span_turn HRR.out T dv _ HTRA.out.pos
          have hlen : ∀ Rl, (spanL L Rl T dv (s8 * (nw - he) - e)).length ≤ 105 := fun Rl => by
            unfold spanL
            have h1 := ahead_len HLF.out.tame Rl (s8 * (nw - he) - e) HTRA.out.ok
            have h2 := HLF.out.fits.s; have h3 := HTRA.out.le
            rw [List.length_append, List.length_reverse]; omega
          have hpos : ∀ Rl, 0 < (spanL L Rl T dv (s8 * (nw - he) - e)).length := fun Rl => by
            unfold spanL
            have h3 := HTRA.out.pos
            rw [List.length_append]; omega
          have HPOS : Hid (0 < la.length ∧ 0 < lb.length) := ⟨by rw [← hla]; exact hpos l, by rw [← hlb]; exact hpos l'⟩
          have HLN : Hid (la.length ≤ 105 ∧ lb.length ≤ 105) := ⟨by rw [← hla]; exact hlen l, by rw [← hlb]; exact hlen l'⟩
          have HSA : Hid (∀ V, CSt w n1 nL nT nR #[.int .u8 (x.fr : Int), .int .u8 (x.lo : Int), .slice At tn ct, .int .u16 (x.ah : Int), .int .u16 (x.he : Int), .int .u16 (x.tk : Int), .int .u16 (x.sp : Int), .slice Ar R.length cr] #[.slice A0 k0 c0, .slice A1 k1 c1, .slice A2 k2 c2, .slice A3 k3 c3, .slice A4 k4 c4, .int .i64 t0, .int .i64 t1, .int .i64 t2, .int .i64 t3, .int .i64 t4] (tcells 4 he (-1) dv e (.slice A T.length c)) vg DG L A c T Ar cr R V → Rd V V.heap.size (.slice (some ⟨B0, 0, none⟩) k3 k3) (cvals l) → Calls Try.prog 15 #[vg, .agg (tcells 4 he (-1) dv e (.slice A T.length c)), .int .i64 nw, .int .i64 s8, .slice (some ⟨B0, 0, none⟩) k3 k3] V (RetOwn V.heap.size la V)) := fun V h hr => by
            have h1 := prog_span V DG vg L 4 he (-1) dv e A c T nw s8 (some ⟨B0, 0, none⟩) k3 l h.gr h.dg HLF.out.fits HLF.out.tame HLF.out.secs.2 h.tr (by have := HTRA.out.le; omega) (by rw [hl1]; exact hr) (by have := HTRA.out.pos; omega) HTRA.out.ok (by omega) (by have := HNW.out; omega) (by omega)
            rw [hla, hl1] at h1; exact h1
          have HSB : Hid (∀ V, CSt w n1 nL nT nR #[.int .u8 (x.fr : Int), .int .u8 (x.lo : Int), .slice At tn ct, .int .u16 (x.ah : Int), .int .u16 (x.he : Int), .int .u16 (x.tk : Int), .int .u16 (x.sp : Int), .slice Ar R.length cr] #[.slice A0 k0 c0, .slice A1 k1 c1, .slice A2 k2 c2, .slice A3 k3 c3, .slice A4 k4 c4, .int .i64 t0, .int .i64 t1, .int .i64 t2, .int .i64 t3, .int .i64 t4] (tcells 4 he (-1) dv e (.slice A T.length c)) vg DG L A c T Ar cr R V → Rd V V.heap.size (.slice (some ⟨gT, 0, none⟩) k3 c7) (cvals l') → Calls Try.prog 15 #[vg, .agg (tcells 4 he (-1) dv e (.slice A T.length c)), .int .i64 nw, .int .i64 s8, .slice (some ⟨gT, 0, none⟩) k3 c7] V (RetOwn V.heap.size lb V)) := fun V h hr => by
            have h1 := prog_span V DG vg L 4 he (-1) dv e A c T nw s8 (some ⟨gT, 0, none⟩) c7 l' h.gr h.dg HLF.out.fits HLF.out.tame HLF.out.secs.2 h.tr (by have := HTRA.out.le; omega) (by rw [hl2]; exact hr) (by have := HTRA.out.pos; omega) HTRA.out.ok (by omega) (by have := HNW.out; omega) (by omega)
            rw [hlb, hl2] at h1; exact h1
          have HBK : Hid (∀ (V : World) (AA : Option Addr) (cc : Nat) (U : List Int), Rd V V.heap.size (.slice AA U.length cc) (ivals U) → U.length ≤ 105 → Calls Try.prog 23 #[.slice AA U.length cc] V (RetOwn V.heap.size U.reverse V)) := fun V AA cc U h1 h2 => refBack_any V AA cc U h1 (by omega)
          have HSS : Hid (∀ V, CSt w n1 nL nT nR #[.int .u8 (x.fr : Int), .int .u8 (x.lo : Int), .slice At tn ct, .int .u16 (x.ah : Int), .int .u16 (x.he : Int), .int .u16 (x.tk : Int), .int .u16 (x.sp : Int), .slice Ar R.length cr] #[.slice A0 k0 c0, .slice A1 k1 c1, .slice A2 k2 c2, .slice A3 k3 c3, .slice A4 k4 c4, .int .i64 t0, .int .i64 t1, .int .i64 t2, .int .i64 t3, .int .i64 t4] (tcells 4 he (-1) dv e (.slice A T.length c)) vg DG L A c T Ar cr R V → V.cell? ⟨nT, 0, none⟩ = some (.int .i64 4) ∧ V.cell? ⟨nT, 1, none⟩ = some (.int .i64 he) ∧ V.cell? ⟨nT, 2, none⟩ = some (.int .i64 (-1)) ∧ V.cell? ⟨nT, 3, none⟩ = some (.int .i64 dv) ∧ V.cell? ⟨nT, 4, none⟩ = some (.int .i64 e) ∧ V.cell? ⟨nT, 5, none⟩ = some (.slice A T.length c)) := fun V h1 => ⟨h1.rt.cell 0, h1.rt.cell 1, h1.rt.cell 2, h1.rt.cell 3, h1.rt.cell 4, h1.rt.cell 5⟩
          have s0 := HSS.out w8.drew HC0.out
          obtain ⟨r0, r1, r2, r3, r4, r5⟩ := (show _ from s0)
          clear hn1 hn2 hn3 hn4 hla hlb hlen hpos hl1 hl2 hbw hbd HRR HR8 HT8 HRL HRE HS7
          go_region_held3 (fun w' => w'.cell? ⟨nT, 0, none⟩ = some (.int .i64 4) ∧ w'.cell? ⟨nT, 1, none⟩ = some (.int .i64 he) ∧ w'.cell? ⟨nT, 2, none⟩ = some (.int .i64 (-1)) ∧ w'.cell? ⟨nT, 3, none⟩ = some (.int .i64 dv) ∧ w'.cell? ⟨nT, 4, none⟩ = some (.int .i64 e) ∧ w'.cell? ⟨nT, 5, none⟩ = some (.slice A T.length c)) (first | (with_reducible assumption) | (with_reducible exact s0) | go_keep) (first | (go_at_call 15; (with_reducible refine (HSA.out w8.drew HC0.out HRl.out).mono ?_); rintro y v1 ⟨vv1, rfl, ho1, hb1⟩; obtain ⟨AA1, cc1, hv1⟩ := own_slice ho1; subst hv1; have HX1 := Lib.hid (Rd.of_own ho1); have HC1 := Lib.hid (HC0.out.call hb1); have HRt1 := Lib.hid (HRt.out.up hb1); have d1 := HSS.out v1 HC1.out; clear hb1 ho1) | (go_at_call 23; (with_reducible refine (HBK.out v1 AA1 cc1 la HX1.out HLN.out.1).mono ?_); rintro y v2 ⟨vv2, rfl, ho2, hb2⟩; obtain ⟨AA2, cc2, hv2⟩ := own_slice ho2; subst hv2; have HA2 := Lib.hid (Rd.of_own ho2); have HC2 := Lib.hid (HC1.out.call hb2); have HRt2 := Lib.hid (HRt1.out.up hb2); have d2 := HSS.out v2 HC2.out; clear hb2 ho2) | (go_at_call 15; (with_reducible refine (HSB.out v2 HC2.out HRt2.out).mono ?_); rintro y v3 ⟨vv3, rfl, ho3, hb3⟩; obtain ⟨AA3, cc3, hv3⟩ := own_slice ho3; subst hv3; have HX3 := Lib.hid (Rd.of_own ho3); have HC3 := Lib.hid (HC2.out.call hb3); have HA3 := Lib.hid (HA2.out.up hb3); have d3 := HSS.out v3 HC3.out; clear hb3 ho3) | (go_at_call 23; (with_reducible refine (HBK.out v3 AA3 cc3 lb HX3.out HLN.out.2).mono ?_); rintro y v4 ⟨vv4, rfl, ho4, hb4⟩; obtain ⟨AA4, cc4, hv4⟩ := own_slice ho4; subst hv4; have HB4 := Lib.hid (Rd.of_own ho4); have HC4 := Lib.hid (HC3.out.call hb4); have HA4 := Lib.hid (HA3.out.up hb4); have d4 := HSS.out v4 HC4.out; clear hb4 ho4))
          clear r0 r1 r2 r3 r4 r5 s0 d1 d2 d3 d4 HSS HSA HSB HBK HX1 HX3 HRl HRt HRt1 HRt2 HA2 HA3 HC0 HC1 HC2 HC3 HC8
          obtain ⟨np, hnp⟩ : ∃ n, la.length = n := ⟨_, rfl⟩
          obtain ⟨nq9, hnq⟩ : ∃ n, lb.length = n := ⟨_, rfl⟩
          rw [List.length_reverse, hnp] at HA4
          rw [List.length_reverse, hnq] at HB4
          rw [hnp, hnq] at HLN HPOS
          rw [hnp, hnq]
          have HPL : Hid (np ≤ 105 ∧ nq9 ≤ 105) := HLN.out
          have HNP : Hid (la.reverse.length = np ∧ lb.reverse.length = nq9) := ⟨by rw [List.length_reverse]; exact hnp, by rw [List.length_reverse]; exact hnq⟩
          clear HLN hnp hnq
          generalize la.reverse = P at *
          generalize lb.reverse = Q at *
          have hKp : K < L.points.length := by rw [HK3.out.1]; exact hKl
          obtain ⟨bp, op, hA3, y0, y1, y2, y3⟩ := HC4.out.lay.point_at K hKp
          have hgd : L.points.getD K (0, 0, 0, 0) = L.points[K] := by simp [List.getD, hKp]
          rw [hgd] at HDV
          subst hA3
          generalize L.points[K] = zz at *
          obtain ⟨z0, z1, z2, z3⟩ := zz
          simp only at y0 y1 y2 y3
          have p3 := HC4.out.rl.cell 3
          simp only [List.getElem?_toArray, List.getElem?_cons_zero, List.getElem?_cons_succ] at p3
          have hk1 : (K : Int) < (k3 : Int) := by omega
          have hba := (Below.refl v4.heap.size v4).alloc (Nat.le_refl _) (.cells #[.int .i64 z0, .int .i64 z1, .int .i64 z2, .int .i64 z3] 61)
          have HC5 := Lib.hid (HC4.out.call hba)
          have HA5 := Lib.hid (HA4.out.up hba)
          have HB5 := Lib.hid (HB4.out.up hba)
          have HP5 := Lib.hid (Row.new v4 61 #[.int .i64 z0, .int .i64 z1, .int .i64 z2, .int .i64 z3])
          clear hba HC4 HA4 HB4 hgd
          go_upto_region 17 with (fail)
          clear y0 y1 y2 y3 p3 hk1
          obtain ⟨nP, hnP⟩ : ∃ n, n = v4.heap.size := ⟨_, rfl⟩
          rw [← hnP] at HP5 ⊢
          clear hnP
          generalize v4.alloc (.cells #[.int .i64 z0, .int .i64 z1, .int .i64 z2, .int .i64 z3] 61) = v5 at *
          have HAT : Hid (∀ i, i < np → ∃ b o, AA2 = some ⟨b, o, none⟩ ∧ v5.cell? ⟨b, o + i, none⟩ = some (.int .i64 (P.getD i 0)) ∧ P[i]? = some (P.getD i 0)) := fun i hi => by
            have hil : i < P.length := by rw [HNP.out.1]; exact hi
            obtain ⟨b, o, hA, -, hc⟩ := HA5.out.at (i := i) (u := .int .i64 (P.getD i 0)) (by simp [ivals, List.getD, hil])
            exact ⟨b, o, hA, hc, by simp [List.getD, hil]⟩
          have HBT : Hid (∀ i, i < nq9 → ∃ b o, AA4 = some ⟨b, o, none⟩ ∧ v5.cell? ⟨b, o + i, none⟩ = some (.int .i64 (Q.getD i 0)) ∧ Q[i]? = some (Q.getD i 0)) := fun i hi => by
            have hil : i < Q.length := by rw [HNP.out.2]; exact hi
            obtain ⟨b, o, hA, -, hc⟩ := HB5.out.at (i := i) (u := .int .i64 (Q.getD i 0)) (by simp [ivals, List.getD, hil])
            exact ⟨b, o, hA, hc, by simp [List.getD, hil]⟩
          obtain ⟨ba, oa, hAA, -, -⟩ := HAT.out 0 HPOS.out.1
          obtain ⟨bb, ob, hBB, -, -⟩ := HBT.out 0 HPOS.out.2
          subst hAA hBB
          have HAU : Hid (∀ i, i < np → v5.cell? ⟨ba, oa + i, none⟩ = some (.int .i64 (P.getD i 0)) ∧ P[i]? = some (P.getD i 0)) := fun i hi => by
            obtain ⟨b, o, h1, h2, h3⟩ := HAT.out i hi
            injection h1 with h1
            injection h1 with h4 h5
            rw [h4, h5]; exact ⟨h2, h3⟩
          have HBV : Hid (∀ i, i < nq9 → v5.cell? ⟨bb, ob + i, none⟩ = some (.int .i64 (Q.getD i 0)) ∧ Q[i]? = some (Q.getD i 0)) := fun i hi => by
            obtain ⟨b, o, h1, h2, h3⟩ := HBT.out i hi
            injection h1 with h1
            injection h1 with h4 h5
            rw [h4, h5]; exact ⟨h2, h3⟩
          clear HAT HBT HPOS
          have HKE : Hid (v5.cell? ⟨nP, 1, none⟩ = some (.int .i64 z1) ∧ v5.cell? ⟨nP, 2, none⟩ = some (.int .i64 z2) ∧ v5.cell? ⟨nP, 3, none⟩ = some (.int .i64 z3) ∧ v5.cell? ⟨nT, 5, none⟩ = some (.slice A T.length c)) := ⟨HP5.out.cell 1, HP5.out.cell 2, HP5.out.cell 3, HC5.out.rt.cell 5⟩
          have HBL : Hid (Below w.heap.size w v5) := HC5.out.bel
          have hpl1 := HPL.out.1; have hpl2 := HPL.out.2
          clear HA5 HB5 HP5 HC5 HPL
          go_wp2_with fail
          go_loopw [20] (fun i9 wr => ∃ i : Nat, i ≤ np ∧ i ≤ nq9 ∧ i9 = .int .i64 i ∧ Hid (∀ j, j < i → P[j]? = Q[j]?) ∧ Hid (Below w.heap.size w wr ∧ ∀ (a : Addr) (u : Value), v5.cell? a = some u → wr.cell? a = some u)) (fun i9 _ => np - (RowKit.intOf i9).toNat)
          case atStart => exact ⟨0, Nat.zero_le _, Nat.zero_le _, rfl, fun j hj => absurd hj (by omega), HBL.out, fun _ _ h => h⟩
          case round =>
            obtain ⟨i, hi1, hi2, rfl, HJ, HW⟩ := hrel
            have HWB : Hid (Below w.heap.size w wr) := HW.out.1
            have HWC : Hid (∀ (a : Addr) (u : Value), v5.cell? a = some u → wr.cell? a = some u) := HW.out.2
            go_upto_region 18 with (fail)
            go_cut [115] (fun v wx => v = .bool (decide (i < np) && decide (i < nq9)) ∧ wx = wr)
            case first =>
              by_cases h1 : i < np
              · have h1i : (i : Int) < (np : Int) := by omega
                by_cases h2 : i < nq9
                · have h2i : (i : Int) < (nq9 : Int) := by omega
                  go_wp2_with fail
                  go_meet
                  case rel => exact ⟨by rw [decide_eq_true h1, decide_eq_true h2]; rfl, rfl⟩
                · have h2i : ¬ (i : Int) < (nq9 : Int) := by omega
                  go_wp2_with fail
                  go_meet
                  case rel => exact ⟨by rw [decide_eq_true h1, decide_eq_false h2]; simp, rfl⟩
              · have h1i : ¬ (i : Int) < (np : Int) := by omega
                go_wp2_with fail
                go_meet
                case rel => exact ⟨by rw [decide_eq_false h1]; rfl, rfl⟩
            case rest =>
            obtain ⟨rfl, hw2⟩ := hcut
            have hw3 := hw2.symm
            subst hw3
            clear hw2
            cases hcc : (decide (i < np) && decide (i < nq9)) with
            | true =>
              rw [Bool.and_eq_true, decide_eq_true_iff, decide_eq_true_iff] at hcc
              have HCC := Lib.hid hcc
              obtain ⟨hca, hpa⟩ := HAU.out i hcc.1
              obtain ⟨hcb, hpb⟩ := HBV.out i hcc.2
              have q0 := HWC.out _ _ hca
              have q1 := HWC.out _ _ hcb
              have HPA := Lib.hid hpa; have HPB := Lib.hid hpb
              have g1 : (i : Int) < (np : Int) := by omega
              have g2 : (i : Int) < (nq9 : Int) := by omega
              have g4 := hcc.1; have g5 := hcc.2
              clear hcc hca hcb hpa hpb
              generalize P.getD i 0 = u at *
              generalize Q.getD i 0 = v at *
              by_cases huv : u = v
              · have hb1 : (u == v) = true := by simpa using huv
                have HNX : Hid (∀ j, j < i + 1 → P[j]? = Q[j]?) := fun j hj => by
                  rcases Nat.lt_or_ge j i with c | c
                  · exact HJ.out j c
                  · obtain rfl : j = i := by omega
                    rw [HPA.out, HPB.out, huv]
                clear huv
                go_upto_region 20 with (fail)
                go_quiet (fail)
                have HNW2 : Hid (Below w.heap.size w (wr.drewN nq) ∧ ∀ (a : Addr) (u : Value), v5.cell? a = some u → (wr.drewN nq).cell? a = some u) := ⟨Below.drewN HWB.out nq, fun a u h => HWC.out a u h⟩
                clear q0 q1 hb1
                go_wp2_with fail
                go_roundw
                case rel => exact ⟨i + 1, by have := HCC.out; omega, by have := HCC.out; omega, by go_num, HNX, HNW2⟩
                case measure => have := HCC.out; simp [RowKit.intOf]; omega
              · have hb1 : (u == v) = false := by simpa using huv
                have HAT2 : Hid (T.length ≤ i ∧ PT (z0, z1, z2, z3) u ∧ PT (z0, z1, z2, z3) v) := dv_at HDV.out HPA.out HPB.out huv HJ.out
                clear huv
                go_upto_region 20 with (fail)
                go_quiet (fail)
                go_upto_region 21 with (fail)
                clear hb1
                have t1 := HWC.out _ _ HKE.out.1; have t2 := HWC.out _ _ HKE.out.2.1; have t3 := HWC.out _ _ HKE.out.2.2.1; have t4 := HWC.out _ _ HKE.out.2.2.2
                have HBU : Hid (Below w.heap.size w (wr.drewN nq).drew) := (Below.drewN HWB.out nq).drew
                have sS : (wr.drewN nq).drew.cell? ⟨ba, oa + i, none⟩ = some (.int .i64 u) ∧ (wr.drewN nq).drew.cell? ⟨bb, ob + i, none⟩ = some (.int .i64 v) ∧ (wr.drewN nq).drew.cell? ⟨nP, 1, none⟩ = some (.int .i64 z1) ∧ (wr.drewN nq).drew.cell? ⟨nP, 2, none⟩ = some (.int .i64 z2) ∧ (wr.drewN nq).drew.cell? ⟨nP, 3, none⟩ = some (.int .i64 z3) ∧ (wr.drewN nq).drew.cell? ⟨nT, 5, none⟩ = some (.slice A T.length c) := ⟨q0, q1, t1, t2, t3, t4⟩
                have hge : (T.length : Int) ≤ (i : Int) := by have := HAT2.out.1; omega
                have HFA := Lib.hid HAT2.out
                clear q0 q1 t1 t2 t3 t4
                clear HAU HBV HKE HDV HPA HPB HCC HWC HW HJ HNP HLF HNUM HTRA HNW HK3 HB0 HBL HAT2 HWB
                generalize Value.agg #[.int .u8 (d.form : Int), .int .u8 (d.len : Int), .int .u8 (d.speed : Int), .int .u16 (d.mute : Int), .int .u16 (d.wait : Int), .int .u8 (d.cancel : Int), .int .u8 (d.stay : Int), .int .u8 (d.join : Int), .slice Ad kd cd] = vd at *
                generalize Value.agg #[.int .u8 (x.fr : Int), .int .u8 (x.lo : Int), .slice At tn ct, .int .u16 (x.ah : Int), .int .u16 he, .int .u16 tk, .int .u16 (x.sp : Int), .slice Ar rl cr] = vs9 at *
                generalize Value.agg #[.slice A0 k0 c0, .slice A1 k1 c1, .slice A2 k2 c2, .slice (some ⟨bp, op, none⟩) k3 c3, .slice A4 k4 c4, .int .i64 t0, .int .i64 t1, .int .i64 t2, .int .i64 t3, .int .i64 t4] = vl9 at *
                generalize Value.agg (tcells 4 he (-1) dv e (.slice A T.length c)) = vt9 at *
                try simp only [List.append]
                refine AnyBut.region (fun w' => w'.cell? ⟨ba, oa + i, none⟩ = some (.int .i64 u) ∧ w'.cell? ⟨bb, ob + i, none⟩ = some (.int .i64 v) ∧ w'.cell? ⟨nP, 1, none⟩ = some (.int .i64 z1) ∧ w'.cell? ⟨nP, 2, none⟩ = some (.int .i64 z2) ∧ w'.cell? ⟨nP, 3, none⟩ = some (.int .i64 z3) ∧ w'.cell? ⟨nT, 5, none⟩ = some (.slice A T.length c)) 59 (by kernel_rfl) ?_
                change AnyBut _ _ _ _ _ _ _ _ _ (wr.drewN nq).drew
                generalize (wr.drewN nq).drew = wu at *
                refine anybut_take 0 127 rfl rfl (by kernel_rfl) (by kernel_rfl) (by kernel_rfl) (by kernel_rfl) (by decide) (fun _ _ _ h => h) (yields_of (by rfl) (fun w9 hS => (by obtain ⟨z_0, z_1, z_2, z_3, z_4, z_5⟩ := hS; go_simp; try rfl))) sS ?_
                simp only [Act.put, List.setIfInBounds_toArray, List.set_cons_zero, List.set_cons_succ]
                refine anybut_take 1 128 rfl rfl (by kernel_rfl) (by kernel_rfl) (by kernel_rfl) (by kernel_rfl) (by decide) (fun _ _ _ h => h) (yields_of (by rfl) (fun w9 hS => (by obtain ⟨z_0, z_1, z_2, z_3, z_4, z_5⟩ := hS; go_simp; try rfl))) sS ?_
                simp only [Act.put, List.setIfInBounds_toArray, List.set_cons_zero, List.set_cons_succ]
                refine anybut_take 2 129 rfl rfl (by kernel_rfl) (by kernel_rfl) (by kernel_rfl) (by kernel_rfl) (by decide) (fun _ _ _ h => h) (yields_of (by rfl) (fun w9 hS => (by obtain ⟨z_0, z_1, z_2, z_3, z_4, z_5⟩ := hS; go_simp; try rfl))) sS ?_
                simp only [Act.put, List.setIfInBounds_toArray, List.set_cons_zero, List.set_cons_succ]
                refine anybut_take 3 130 rfl rfl (by kernel_rfl) (by kernel_rfl) (by kernel_rfl) (by kernel_rfl) (by decide) (fun _ _ _ h => h) (yields_of (by rfl) (fun w9 hS => (by obtain ⟨z_0, z_1, z_2, z_3, z_4, z_5⟩ := hS; go_simp; try rfl))) sS ?_
                simp only [Act.put, List.setIfInBounds_toArray, List.set_cons_zero, List.set_cons_succ]
                refine anybut_take 4 131 rfl rfl (by kernel_rfl) (by kernel_rfl) (by kernel_rfl) (by kernel_rfl) (by decide) (fun _ _ _ h => h) (yields_of (by rfl) (fun w9 hS => (by obtain ⟨z_0, z_1, z_2, z_3, z_4, z_5⟩ := hS; go_simp; try rfl))) sS ?_
                simp only [Act.put, List.setIfInBounds_toArray, List.set_cons_zero, List.set_cons_succ]
                refine anybut_take 5 132 rfl rfl (by kernel_rfl) (by kernel_rfl) (by kernel_rfl) (by kernel_rfl) (by decide) (fun _ _ _ h => h) (yields_of (by rfl) (fun w9 hS => (by obtain ⟨z_0, z_1, z_2, z_3, z_4, z_5⟩ := hS; go_simp; try rfl))) sS ?_
                simp only [Act.put, List.setIfInBounds_toArray, List.set_cons_zero, List.set_cons_succ]
                refine anybut_take 6 133 rfl rfl (by kernel_rfl) (by kernel_rfl) (by kernel_rfl) (by kernel_rfl) (by decide) (fun _ _ _ h => h) (yields_of (by rfl) (fun w9 hS => (by obtain ⟨z_0, z_1, z_2, z_3, z_4, z_5⟩ := hS; go_simp; try rfl))) sS ?_
                simp only [Act.put, List.setIfInBounds_toArray, List.set_cons_zero, List.set_cons_succ]
                refine anybut_take 7 134 rfl rfl (by kernel_rfl) (by kernel_rfl) (by kernel_rfl) (by kernel_rfl) (by decide) (fun _ _ _ h => h) (yields_of (by rfl) (fun w9 hS => (by obtain ⟨z_0, z_1, z_2, z_3, z_4, z_5⟩ := hS; go_simp; try rfl))) sS ?_
                simp only [Act.put, List.setIfInBounds_toArray, List.set_cons_zero, List.set_cons_succ]
                refine anybut_take 8 135 rfl rfl (by kernel_rfl) (by kernel_rfl) (by kernel_rfl) (by kernel_rfl) (by decide) (fun _ _ _ h => h) (yields_of (by rfl) (fun w9 hS => (by obtain ⟨z_0, z_1, z_2, z_3, z_4, z_5⟩ := hS; go_simp; try rfl))) sS ?_
                simp only [Act.put, List.setIfInBounds_toArray, List.set_cons_zero, List.set_cons_succ]
                refine anybut_take 9 136 rfl rfl (by kernel_rfl) (by kernel_rfl) (by kernel_rfl) (by kernel_rfl) (by decide) (fun _ _ _ h => h) (yields_of (by rfl) (fun w9 hS => (by obtain ⟨z_0, z_1, z_2, z_3, z_4, z_5⟩ := hS; go_simp; try rfl))) sS ?_
                simp only [Act.put, List.setIfInBounds_toArray, List.set_cons_zero, List.set_cons_succ]
                refine anybut_take 10 137 rfl rfl (by kernel_rfl) (by kernel_rfl) (by kernel_rfl) (by kernel_rfl) (by decide) (fun _ _ _ h => h) (yields_of (by rfl) (fun w9 hS => (by obtain ⟨z_0, z_1, z_2, z_3, z_4, z_5⟩ := hS; go_simp; try rfl))) sS ?_
                simp only [Act.put, List.setIfInBounds_toArray, List.set_cons_zero, List.set_cons_succ]
                refine anybut_take 11 138 rfl rfl (by kernel_rfl) (by kernel_rfl) (by kernel_rfl) (by kernel_rfl) (by decide) (fun _ _ _ h => h) (yields_of (by rfl) (fun w9 hS => (by obtain ⟨z_0, z_1, z_2, z_3, z_4, z_5⟩ := hS; go_simp; try rfl))) sS ?_
                simp only [Act.put, List.setIfInBounds_toArray, List.set_cons_zero, List.set_cons_succ]
                rcases three_pt HFA.out.2.1 with au1 | ⟨au1, au2⟩ | ⟨au1, au2, au3⟩
                · as_aux_lemma =>
                    refine anybut_take 12 139 rfl rfl (by kernel_rfl) (by kernel_rfl) (by kernel_rfl) (by kernel_rfl) (by decide) (fun _ _ _ h => h) (yields_of (by rfl) (fun w9 hS => (by obtain ⟨z_0, z_1, z_2, z_3, z_4, z_5⟩ := hS; go_simp; try rfl))) sS ?_
                    simp only [Act.put, List.setIfInBounds_toArray, List.set_cons_zero, List.set_cons_succ]
                    refine anybut_take 13 140 rfl rfl (by kernel_rfl) (by kernel_rfl) (by kernel_rfl) (by kernel_rfl) (by decide) (fun _ _ _ h => h) (yields_of (by rfl) (fun w9 hS => (by obtain ⟨z_0, z_1, z_2, z_3, z_4, z_5⟩ := hS; go_simp; try rfl))) sS ?_
                    simp only [Act.put, List.setIfInBounds_toArray, List.set_cons_zero, List.set_cons_succ]
                    refine anybut_take 14 141 rfl rfl (by kernel_rfl) (by kernel_rfl) (by kernel_rfl) (by kernel_rfl) (by decide) (fun _ _ _ h => h) (Or.inr ⟨by rfl, rfl⟩) sS ?_
                    simp only [Act.put, List.setIfInBounds_toArray, List.set_cons_zero, List.set_cons_succ]
                    refine anybut_take 15 142 rfl rfl (by kernel_rfl) (by kernel_rfl) (by kernel_rfl) (by kernel_rfl) (by decide) (fun _ _ _ h => h) (Or.inr ⟨by rfl, rfl⟩) sS ?_
                    simp only [Act.put, List.setIfInBounds_toArray, List.set_cons_zero, List.set_cons_succ]
                    refine anybut_take 16 143 rfl rfl (by kernel_rfl) (by kernel_rfl) (by kernel_rfl) (by kernel_rfl) (by decide) (fun _ _ _ h => h) (Or.inr ⟨by rfl, rfl⟩) sS ?_
                    simp only [Act.put, List.setIfInBounds_toArray, List.set_cons_zero, List.set_cons_succ]
                    refine anybut_take 17 144 rfl rfl (by kernel_rfl) (by kernel_rfl) (by kernel_rfl) (by kernel_rfl) (by decide) (fun _ _ _ h => h) (Or.inr ⟨by rfl, rfl⟩) sS ?_
                    simp only [Act.put, List.setIfInBounds_toArray, List.set_cons_zero, List.set_cons_succ]
                    refine anybut_take 18 145 rfl rfl (by kernel_rfl) (by kernel_rfl) (by kernel_rfl) (by kernel_rfl) (by decide) (fun _ _ _ h => h) (Or.inr ⟨by rfl, rfl⟩) sS ?_
                    simp only [Act.put, List.setIfInBounds_toArray, List.set_cons_zero, List.set_cons_succ]
                    refine anybut_take 19 146 rfl rfl (by kernel_rfl) (by kernel_rfl) (by kernel_rfl) (by kernel_rfl) (by decide) (fun _ _ _ h => h) (Or.inr ⟨by rfl, rfl⟩) sS ?_
                    simp only [Act.put, List.setIfInBounds_toArray, List.set_cons_zero, List.set_cons_succ]
                    refine anybut_take 20 147 rfl rfl (by kernel_rfl) (by kernel_rfl) (by kernel_rfl) (by kernel_rfl) (by decide) (fun _ _ _ h => h) (Or.inr ⟨by rfl, rfl⟩) sS ?_
                    simp only [Act.put, List.setIfInBounds_toArray, List.set_cons_zero, List.set_cons_succ]
                    refine anybut_take 21 148 rfl rfl (by kernel_rfl) (by kernel_rfl) (by kernel_rfl) (by kernel_rfl) (by decide) (fun _ _ _ h => h) (yields_of (by rfl) (fun w9 hS => (by obtain ⟨z_0, z_1, z_2, z_3, z_4, z_5⟩ := hS; go_simp; try rfl))) sS ?_
                    simp only [Act.put, List.setIfInBounds_toArray, List.set_cons_zero, List.set_cons_succ]
                    refine anybut_take 22 149 rfl rfl (by kernel_rfl) (by kernel_rfl) (by kernel_rfl) (by kernel_rfl) (by decide) (fun _ _ _ h => h) (yields_of (by rfl) (fun w9 hS => (by obtain ⟨z_0, z_1, z_2, z_3, z_4, z_5⟩ := hS; go_simp; try rfl))) sS ?_
                    simp only [Act.put, List.setIfInBounds_toArray, List.set_cons_zero, List.set_cons_succ]
                    refine anybut_take 23 150 rfl rfl (by kernel_rfl) (by kernel_rfl) (by kernel_rfl) (by kernel_rfl) (by decide) (fun _ _ _ h => h) (Or.inr ⟨by rfl, rfl⟩) sS ?_
                    simp only [Act.put, List.setIfInBounds_toArray, List.set_cons_zero, List.set_cons_succ]
                    refine anybut_take 24 151 rfl rfl (by kernel_rfl) (by kernel_rfl) (by kernel_rfl) (by kernel_rfl) (by decide) (fun _ _ _ h => h) (Or.inr ⟨by rfl, rfl⟩) sS ?_
                    simp only [Act.put, List.setIfInBounds_toArray, List.set_cons_zero, List.set_cons_succ]
                    refine anybut_take 25 152 rfl rfl (by kernel_rfl) (by kernel_rfl) (by kernel_rfl) (by kernel_rfl) (by decide) (fun _ _ _ h => h) (Or.inr ⟨by rfl, rfl⟩) sS ?_
                    simp only [Act.put, List.setIfInBounds_toArray, List.set_cons_zero, List.set_cons_succ]
                    refine anybut_take 26 153 rfl rfl (by kernel_rfl) (by kernel_rfl) (by kernel_rfl) (by kernel_rfl) (by decide) (fun _ _ _ h => h) (Or.inr ⟨by rfl, rfl⟩) sS ?_
                    simp only [Act.put, List.setIfInBounds_toArray, List.set_cons_zero, List.set_cons_succ]
                    refine anybut_take 27 154 rfl rfl (by kernel_rfl) (by kernel_rfl) (by kernel_rfl) (by kernel_rfl) (by decide) (fun _ _ _ h => h) (Or.inr ⟨by rfl, rfl⟩) sS ?_
                    simp only [Act.put, List.setIfInBounds_toArray, List.set_cons_zero, List.set_cons_succ]
                    refine anybut_take 28 155 rfl rfl (by kernel_rfl) (by kernel_rfl) (by kernel_rfl) (by kernel_rfl) (by decide) (fun _ _ _ h => h) (Or.inr ⟨by rfl, rfl⟩) sS ?_
                    simp only [Act.put, List.setIfInBounds_toArray, List.set_cons_zero, List.set_cons_succ]
                    refine anybut_take 29 156 rfl rfl (by kernel_rfl) (by kernel_rfl) (by kernel_rfl) (by kernel_rfl) (by decide) (fun _ _ _ h => h) (Or.inr ⟨by rfl, rfl⟩) sS ?_
                    simp only [Act.put, List.setIfInBounds_toArray, List.set_cons_zero, List.set_cons_succ]
                    refine anybut_take 30 157 rfl rfl (by kernel_rfl) (by kernel_rfl) (by kernel_rfl) (by kernel_rfl) (by decide) (fun _ _ _ h => h) (yields_of (by rfl) (fun w9 hS => (by obtain ⟨z_0, z_1, z_2, z_3, z_4, z_5⟩ := hS; go_simp; try rfl))) sS ?_
                    simp only [Act.put, List.setIfInBounds_toArray, List.set_cons_zero, List.set_cons_succ]
                    refine anybut_take 31 158 rfl rfl (by kernel_rfl) (by kernel_rfl) (by kernel_rfl) (by kernel_rfl) (by decide) (fun _ _ _ h => h) (yields_of (by rfl) (fun w9 hS => (by obtain ⟨z_0, z_1, z_2, z_3, z_4, z_5⟩ := hS; go_simp; try rfl))) sS ?_
                    simp only [Act.put, List.setIfInBounds_toArray, List.set_cons_zero, List.set_cons_succ]
                    refine anybut_take 32 159 rfl rfl (by kernel_rfl) (by kernel_rfl) (by kernel_rfl) (by kernel_rfl) (by decide) (fun _ _ _ h => h) (yields_of (by rfl) (fun w9 hS => (by obtain ⟨z_0, z_1, z_2, z_3, z_4, z_5⟩ := hS; go_simp; try rfl))) sS ?_
                    simp only [Act.put, List.setIfInBounds_toArray, List.set_cons_zero, List.set_cons_succ]
                    refine anybut_take 33 160 rfl rfl (by kernel_rfl) (by kernel_rfl) (by kernel_rfl) (by kernel_rfl) (by decide) (fun _ _ _ h => h) (yields_of (by rfl) (fun w9 hS => (by obtain ⟨z_0, z_1, z_2, z_3, z_4, z_5⟩ := hS; go_simp; try rfl))) sS ?_
                    simp only [Act.put, List.setIfInBounds_toArray, List.set_cons_zero, List.set_cons_succ]
                    refine anybut_take 34 161 rfl rfl (by kernel_rfl) (by kernel_rfl) (by kernel_rfl) (by kernel_rfl) (by decide) (fun _ _ _ h => h) (yields_of (by rfl) (fun w9 hS => (by obtain ⟨z_0, z_1, z_2, z_3, z_4, z_5⟩ := hS; go_simp; try rfl))) sS ?_
                    simp only [Act.put, List.setIfInBounds_toArray, List.set_cons_zero, List.set_cons_succ]
                    refine anybut_take 35 162 rfl rfl (by kernel_rfl) (by kernel_rfl) (by kernel_rfl) (by kernel_rfl) (by decide) (fun _ _ _ h => h) (yields_of (by rfl) (fun w9 hS => (by obtain ⟨z_0, z_1, z_2, z_3, z_4, z_5⟩ := hS; go_simp; try rfl))) sS ?_
                    simp only [Act.put, List.setIfInBounds_toArray, List.set_cons_zero, List.set_cons_succ]
                    refine anybut_take 36 163 rfl rfl (by kernel_rfl) (by kernel_rfl) (by kernel_rfl) (by kernel_rfl) (by decide) (fun _ _ _ h => h) (yields_of (by rfl) (fun w9 hS => (by obtain ⟨z_0, z_1, z_2, z_3, z_4, z_5⟩ := hS; go_simp; try rfl))) sS ?_
                    simp only [Act.put, List.setIfInBounds_toArray, List.set_cons_zero, List.set_cons_succ]
                    refine anybut_take 37 164 rfl rfl (by kernel_rfl) (by kernel_rfl) (by kernel_rfl) (by kernel_rfl) (by decide) (fun _ _ _ h => h) (yields_of (by rfl) (fun w9 hS => (by obtain ⟨z_0, z_1, z_2, z_3, z_4, z_5⟩ := hS; go_simp; try rfl))) sS ?_
                    simp only [Act.put, List.setIfInBounds_toArray, List.set_cons_zero, List.set_cons_succ]
                    refine anybut_take 38 165 rfl rfl (by kernel_rfl) (by kernel_rfl) (by kernel_rfl) (by kernel_rfl) (by decide) (fun _ _ _ h => h) (yields_of (by rfl) (fun w9 hS => (by obtain ⟨z_0, z_1, z_2, z_3, z_4, z_5⟩ := hS; go_simp; try rfl))) sS ?_
                    simp only [Act.put, List.setIfInBounds_toArray, List.set_cons_zero, List.set_cons_succ]
                    rcases three_pt HFA.out.2.2 with av1 | ⟨av1, av2⟩ | ⟨av1, av2, av3⟩
                    · refine anybut_take 39 166 rfl rfl (by kernel_rfl) (by kernel_rfl) (by kernel_rfl) (by kernel_rfl) (by decide) (fun _ _ _ h => h) (yields_of (by rfl) (fun w9 hS => (by obtain ⟨z_0, z_1, z_2, z_3, z_4, z_5⟩ := hS; go_simp; try rfl))) sS ?_
                      simp only [Act.put, List.setIfInBounds_toArray, List.set_cons_zero, List.set_cons_succ]
                      refine anybut_take 40 167 rfl rfl (by kernel_rfl) (by kernel_rfl) (by kernel_rfl) (by kernel_rfl) (by decide) (fun _ _ _ h => h) (yields_of (by rfl) (fun w9 hS => (by obtain ⟨z_0, z_1, z_2, z_3, z_4, z_5⟩ := hS; go_simp; try rfl))) sS ?_
                      simp only [Act.put, List.setIfInBounds_toArray, List.set_cons_zero, List.set_cons_succ]
                      refine anybut_take 41 168 rfl rfl (by kernel_rfl) (by kernel_rfl) (by kernel_rfl) (by kernel_rfl) (by decide) (fun _ _ _ h => h) (Or.inr ⟨by rfl, rfl⟩) sS ?_
                      simp only [Act.put, List.setIfInBounds_toArray, List.set_cons_zero, List.set_cons_succ]
                      refine anybut_take 42 169 rfl rfl (by kernel_rfl) (by kernel_rfl) (by kernel_rfl) (by kernel_rfl) (by decide) (fun _ _ _ h => h) (Or.inr ⟨by rfl, rfl⟩) sS ?_
                      simp only [Act.put, List.setIfInBounds_toArray, List.set_cons_zero, List.set_cons_succ]
                      refine anybut_take 43 170 rfl rfl (by kernel_rfl) (by kernel_rfl) (by kernel_rfl) (by kernel_rfl) (by decide) (fun _ _ _ h => h) (Or.inr ⟨by rfl, rfl⟩) sS ?_
                      simp only [Act.put, List.setIfInBounds_toArray, List.set_cons_zero, List.set_cons_succ]
                      refine anybut_take 44 171 rfl rfl (by kernel_rfl) (by kernel_rfl) (by kernel_rfl) (by kernel_rfl) (by decide) (fun _ _ _ h => h) (Or.inr ⟨by rfl, rfl⟩) sS ?_
                      simp only [Act.put, List.setIfInBounds_toArray, List.set_cons_zero, List.set_cons_succ]
                      refine anybut_take 45 172 rfl rfl (by kernel_rfl) (by kernel_rfl) (by kernel_rfl) (by kernel_rfl) (by decide) (fun _ _ _ h => h) (Or.inr ⟨by rfl, rfl⟩) sS ?_
                      simp only [Act.put, List.setIfInBounds_toArray, List.set_cons_zero, List.set_cons_succ]
                      refine anybut_take 46 173 rfl rfl (by kernel_rfl) (by kernel_rfl) (by kernel_rfl) (by kernel_rfl) (by decide) (fun _ _ _ h => h) (Or.inr ⟨by rfl, rfl⟩) sS ?_
                      simp only [Act.put, List.setIfInBounds_toArray, List.set_cons_zero, List.set_cons_succ]
                      refine anybut_take 47 174 rfl rfl (by kernel_rfl) (by kernel_rfl) (by kernel_rfl) (by kernel_rfl) (by decide) (fun _ _ _ h => h) (Or.inr ⟨by rfl, rfl⟩) sS ?_
                      simp only [Act.put, List.setIfInBounds_toArray, List.set_cons_zero, List.set_cons_succ]
                      refine anybut_take 48 175 rfl rfl (by kernel_rfl) (by kernel_rfl) (by kernel_rfl) (by kernel_rfl) (by decide) (fun _ _ _ h => h) (yields_of (by rfl) (fun w9 hS => (by obtain ⟨z_0, z_1, z_2, z_3, z_4, z_5⟩ := hS; go_simp; try rfl))) sS ?_
                      simp only [Act.put, List.setIfInBounds_toArray, List.set_cons_zero, List.set_cons_succ]
                      refine anybut_take 49 176 rfl rfl (by kernel_rfl) (by kernel_rfl) (by kernel_rfl) (by kernel_rfl) (by decide) (fun _ _ _ h => h) (yields_of (by rfl) (fun w9 hS => (by obtain ⟨z_0, z_1, z_2, z_3, z_4, z_5⟩ := hS; go_simp; try rfl))) sS ?_
                      simp only [Act.put, List.setIfInBounds_toArray, List.set_cons_zero, List.set_cons_succ]
                      refine anybut_take 50 177 rfl rfl (by kernel_rfl) (by kernel_rfl) (by kernel_rfl) (by kernel_rfl) (by decide) (fun _ _ _ h => h) (Or.inr ⟨by rfl, rfl⟩) sS ?_
                      simp only [Act.put, List.setIfInBounds_toArray, List.set_cons_zero, List.set_cons_succ]
                      refine anybut_take 51 178 rfl rfl (by kernel_rfl) (by kernel_rfl) (by kernel_rfl) (by kernel_rfl) (by decide) (fun _ _ _ h => h) (Or.inr ⟨by rfl, rfl⟩) sS ?_
                      simp only [Act.put, List.setIfInBounds_toArray, List.set_cons_zero, List.set_cons_succ]
                      refine anybut_take 52 179 rfl rfl (by kernel_rfl) (by kernel_rfl) (by kernel_rfl) (by kernel_rfl) (by decide) (fun _ _ _ h => h) (Or.inr ⟨by rfl, rfl⟩) sS ?_
                      simp only [Act.put, List.setIfInBounds_toArray, List.set_cons_zero, List.set_cons_succ]
                      refine anybut_take 53 180 rfl rfl (by kernel_rfl) (by kernel_rfl) (by kernel_rfl) (by kernel_rfl) (by decide) (fun _ _ _ h => h) (Or.inr ⟨by rfl, rfl⟩) sS ?_
                      simp only [Act.put, List.setIfInBounds_toArray, List.set_cons_zero, List.set_cons_succ]
                      refine anybut_take 54 181 rfl rfl (by kernel_rfl) (by kernel_rfl) (by kernel_rfl) (by kernel_rfl) (by decide) (fun _ _ _ h => h) (Or.inr ⟨by rfl, rfl⟩) sS ?_
                      simp only [Act.put, List.setIfInBounds_toArray, List.set_cons_zero, List.set_cons_succ]
                      refine anybut_take 55 182 rfl rfl (by kernel_rfl) (by kernel_rfl) (by kernel_rfl) (by kernel_rfl) (by decide) (fun _ _ _ h => h) (Or.inr ⟨by rfl, rfl⟩) sS ?_
                      simp only [Act.put, List.setIfInBounds_toArray, List.set_cons_zero, List.set_cons_succ]
                      refine anybut_take 56 183 rfl rfl (by kernel_rfl) (by kernel_rfl) (by kernel_rfl) (by kernel_rfl) (by decide) (fun _ _ _ h => h) (Or.inr ⟨by rfl, rfl⟩) sS ?_
                      simp only [Act.put, List.setIfInBounds_toArray, List.set_cons_zero, List.set_cons_succ]
                      refine anybut_take 57 184 rfl rfl (by kernel_rfl) (by kernel_rfl) (by kernel_rfl) (by kernel_rfl) (by decide) (fun _ _ _ h => h) (yields_of (by rfl) (fun w9 hS => (by obtain ⟨z_0, z_1, z_2, z_3, z_4, z_5⟩ := hS; go_simp; try rfl))) sS ?_
                      simp only [Act.put, List.setIfInBounds_toArray, List.set_cons_zero, List.set_cons_succ]
                      refine anybut_take 58 185 rfl rfl (by kernel_rfl) (by kernel_rfl) (by kernel_rfl) (by kernel_rfl) (by decide) (fun _ _ _ h => h) (yields_of (by rfl) (fun w9 hS => (by obtain ⟨z_0, z_1, z_2, z_3, z_4, z_5⟩ := hS; go_simp; try rfl))) sS ?_
                      simp only [Act.put, List.setIfInBounds_toArray, List.set_cons_zero, List.set_cons_succ]
                      refine AnyBut.one 59 rfl (by kernel_rfl) (by rfl) ?_
                      go_simp
                      refine AnyBut.done (by kernel_rfl) ?_
                      go_wp2_with fail
                      go_ret
                      exact ⟨rfl, HBU.out⟩
                    · refine anybut_take 39 166 rfl rfl (by kernel_rfl) (by kernel_rfl) (by kernel_rfl) (by kernel_rfl) (by decide) (fun _ _ _ h => h) (yields_of (by rfl) (fun w9 hS => (by obtain ⟨z_0, z_1, z_2, z_3, z_4, z_5⟩ := hS; go_simp; try rfl))) sS ?_
                      simp only [Act.put, List.setIfInBounds_toArray, List.set_cons_zero, List.set_cons_succ]
                      refine anybut_take 40 167 rfl rfl (by kernel_rfl) (by kernel_rfl) (by kernel_rfl) (by kernel_rfl) (by decide) (fun _ _ _ h => h) (yields_of (by rfl) (fun w9 hS => (by obtain ⟨z_0, z_1, z_2, z_3, z_4, z_5⟩ := hS; go_simp; try rfl))) sS ?_
                      simp only [Act.put, List.setIfInBounds_toArray, List.set_cons_zero, List.set_cons_succ]
                      refine anybut_take 41 168 rfl rfl (by kernel_rfl) (by kernel_rfl) (by kernel_rfl) (by kernel_rfl) (by decide) (fun _ _ _ h => h) (yields_of (by rfl) (fun w9 hS => (by obtain ⟨z_0, z_1, z_2, z_3, z_4, z_5⟩ := hS; go_simp; try rfl))) sS ?_
                      simp only [Act.put, List.setIfInBounds_toArray, List.set_cons_zero, List.set_cons_succ]
                      refine anybut_take 42 169 rfl rfl (by kernel_rfl) (by kernel_rfl) (by kernel_rfl) (by kernel_rfl) (by decide) (fun _ _ _ h => h) (yields_of (by rfl) (fun w9 hS => (by obtain ⟨z_0, z_1, z_2, z_3, z_4, z_5⟩ := hS; go_simp; try rfl))) sS ?_
                      simp only [Act.put, List.setIfInBounds_toArray, List.set_cons_zero, List.set_cons_succ]
                      refine anybut_take 43 170 rfl rfl (by kernel_rfl) (by kernel_rfl) (by kernel_rfl) (by kernel_rfl) (by decide) (fun _ _ _ h => h) (yields_of (by rfl) (fun w9 hS => (by obtain ⟨z_0, z_1, z_2, z_3, z_4, z_5⟩ := hS; go_simp; try rfl))) sS ?_
                      simp only [Act.put, List.setIfInBounds_toArray, List.set_cons_zero, List.set_cons_succ]
                      refine anybut_take 44 171 rfl rfl (by kernel_rfl) (by kernel_rfl) (by kernel_rfl) (by kernel_rfl) (by decide) (fun _ _ _ h => h) (yields_of (by rfl) (fun w9 hS => (by obtain ⟨z_0, z_1, z_2, z_3, z_4, z_5⟩ := hS; go_simp; try rfl))) sS ?_
                      simp only [Act.put, List.setIfInBounds_toArray, List.set_cons_zero, List.set_cons_succ]
                      refine anybut_take 45 172 rfl rfl (by kernel_rfl) (by kernel_rfl) (by kernel_rfl) (by kernel_rfl) (by decide) (fun _ _ _ h => h) (yields_of (by rfl) (fun w9 hS => (by obtain ⟨z_0, z_1, z_2, z_3, z_4, z_5⟩ := hS; go_simp; try rfl))) sS ?_
                      simp only [Act.put, List.setIfInBounds_toArray, List.set_cons_zero, List.set_cons_succ]
                      refine anybut_take 46 173 rfl rfl (by kernel_rfl) (by kernel_rfl) (by kernel_rfl) (by kernel_rfl) (by decide) (fun _ _ _ h => h) (yields_of (by rfl) (fun w9 hS => (by obtain ⟨z_0, z_1, z_2, z_3, z_4, z_5⟩ := hS; go_simp; try rfl))) sS ?_
                      simp only [Act.put, List.setIfInBounds_toArray, List.set_cons_zero, List.set_cons_succ]
                      refine anybut_take 47 174 rfl rfl (by kernel_rfl) (by kernel_rfl) (by kernel_rfl) (by kernel_rfl) (by decide) (fun _ _ _ h => h) (yields_of (by rfl) (fun w9 hS => (by obtain ⟨z_0, z_1, z_2, z_3, z_4, z_5⟩ := hS; go_simp; try rfl))) sS ?_
                      simp only [Act.put, List.setIfInBounds_toArray, List.set_cons_zero, List.set_cons_succ]
                      refine anybut_take 48 175 rfl rfl (by kernel_rfl) (by kernel_rfl) (by kernel_rfl) (by kernel_rfl) (by decide) (fun _ _ _ h => h) (yields_of (by rfl) (fun w9 hS => (by obtain ⟨z_0, z_1, z_2, z_3, z_4, z_5⟩ := hS; go_simp; try rfl))) sS ?_
                      simp only [Act.put, List.setIfInBounds_toArray, List.set_cons_zero, List.set_cons_succ]
                      refine anybut_take 49 176 rfl rfl (by kernel_rfl) (by kernel_rfl) (by kernel_rfl) (by kernel_rfl) (by decide) (fun _ _ _ h => h) (yields_of (by rfl) (fun w9 hS => (by obtain ⟨z_0, z_1, z_2, z_3, z_4, z_5⟩ := hS; go_simp; try rfl))) sS ?_
                      simp only [Act.put, List.setIfInBounds_toArray, List.set_cons_zero, List.set_cons_succ]
                      refine anybut_take 50 177 rfl rfl (by kernel_rfl) (by kernel_rfl) (by kernel_rfl) (by kernel_rfl) (by decide) (fun _ _ _ h => h) (Or.inr ⟨by rfl, rfl⟩) sS ?_
                      simp only [Act.put, List.setIfInBounds_toArray, List.set_cons_zero, List.set_cons_succ]
                      refine anybut_take 51 178 rfl rfl (by kernel_rfl) (by kernel_rfl) (by kernel_rfl) (by kernel_rfl) (by decide) (fun _ _ _ h => h) (Or.inr ⟨by rfl, rfl⟩) sS ?_
                      simp only [Act.put, List.setIfInBounds_toArray, List.set_cons_zero, List.set_cons_succ]
                      refine anybut_take 52 179 rfl rfl (by kernel_rfl) (by kernel_rfl) (by kernel_rfl) (by kernel_rfl) (by decide) (fun _ _ _ h => h) (Or.inr ⟨by rfl, rfl⟩) sS ?_
                      simp only [Act.put, List.setIfInBounds_toArray, List.set_cons_zero, List.set_cons_succ]
                      refine anybut_take 53 180 rfl rfl (by kernel_rfl) (by kernel_rfl) (by kernel_rfl) (by kernel_rfl) (by decide) (fun _ _ _ h => h) (Or.inr ⟨by rfl, rfl⟩) sS ?_
                      simp only [Act.put, List.setIfInBounds_toArray, List.set_cons_zero, List.set_cons_succ]
                      refine anybut_take 54 181 rfl rfl (by kernel_rfl) (by kernel_rfl) (by kernel_rfl) (by kernel_rfl) (by decide) (fun _ _ _ h => h) (Or.inr ⟨by rfl, rfl⟩) sS ?_
                      simp only [Act.put, List.setIfInBounds_toArray, List.set_cons_zero, List.set_cons_succ]
                      refine anybut_take 55 182 rfl rfl (by kernel_rfl) (by kernel_rfl) (by kernel_rfl) (by kernel_rfl) (by decide) (fun _ _ _ h => h) (Or.inr ⟨by rfl, rfl⟩) sS ?_
                      simp only [Act.put, List.setIfInBounds_toArray, List.set_cons_zero, List.set_cons_succ]
                      refine anybut_take 56 183 rfl rfl (by kernel_rfl) (by kernel_rfl) (by kernel_rfl) (by kernel_rfl) (by decide) (fun _ _ _ h => h) (Or.inr ⟨by rfl, rfl⟩) sS ?_
                      simp only [Act.put, List.setIfInBounds_toArray, List.set_cons_zero, List.set_cons_succ]
                      refine anybut_take 57 184 rfl rfl (by kernel_rfl) (by kernel_rfl) (by kernel_rfl) (by kernel_rfl) (by decide) (fun _ _ _ h => h) (yields_of (by rfl) (fun w9 hS => (by obtain ⟨z_0, z_1, z_2, z_3, z_4, z_5⟩ := hS; go_simp; try rfl))) sS ?_
                      simp only [Act.put, List.setIfInBounds_toArray, List.set_cons_zero, List.set_cons_succ]
                      refine anybut_take 58 185 rfl rfl (by kernel_rfl) (by kernel_rfl) (by kernel_rfl) (by kernel_rfl) (by decide) (fun _ _ _ h => h) (yields_of (by rfl) (fun w9 hS => (by obtain ⟨z_0, z_1, z_2, z_3, z_4, z_5⟩ := hS; go_simp; try rfl))) sS ?_
                      simp only [Act.put, List.setIfInBounds_toArray, List.set_cons_zero, List.set_cons_succ]
                      refine AnyBut.one 59 rfl (by kernel_rfl) (by rfl) ?_
                      go_simp
                      refine AnyBut.done (by kernel_rfl) ?_
                      go_wp2_with fail
                      go_ret
                      exact ⟨rfl, HBU.out⟩
                    · refine anybut_take 39 166 rfl rfl (by kernel_rfl) (by kernel_rfl) (by kernel_rfl) (by kernel_rfl) (by decide) (fun _ _ _ h => h) (yields_of (by rfl) (fun w9 hS => (by obtain ⟨z_0, z_1, z_2, z_3, z_4, z_5⟩ := hS; go_simp; try rfl))) sS ?_
                      simp only [Act.put, List.setIfInBounds_toArray, List.set_cons_zero, List.set_cons_succ]
                      refine anybut_take 40 167 rfl rfl (by kernel_rfl) (by kernel_rfl) (by kernel_rfl) (by kernel_rfl) (by decide) (fun _ _ _ h => h) (yields_of (by rfl) (fun w9 hS => (by obtain ⟨z_0, z_1, z_2, z_3, z_4, z_5⟩ := hS; go_simp; try rfl))) sS ?_
                      simp only [Act.put, List.setIfInBounds_toArray, List.set_cons_zero, List.set_cons_succ]
                      refine anybut_take 41 168 rfl rfl (by kernel_rfl) (by kernel_rfl) (by kernel_rfl) (by kernel_rfl) (by decide) (fun _ _ _ h => h) (yields_of (by rfl) (fun w9 hS => (by obtain ⟨z_0, z_1, z_2, z_3, z_4, z_5⟩ := hS; go_simp; try rfl))) sS ?_
                      simp only [Act.put, List.setIfInBounds_toArray, List.set_cons_zero, List.set_cons_succ]
                      refine anybut_take 42 169 rfl rfl (by kernel_rfl) (by kernel_rfl) (by kernel_rfl) (by kernel_rfl) (by decide) (fun _ _ _ h => h) (yields_of (by rfl) (fun w9 hS => (by obtain ⟨z_0, z_1, z_2, z_3, z_4, z_5⟩ := hS; go_simp; try rfl))) sS ?_
                      simp only [Act.put, List.setIfInBounds_toArray, List.set_cons_zero, List.set_cons_succ]
                      refine anybut_take 43 170 rfl rfl (by kernel_rfl) (by kernel_rfl) (by kernel_rfl) (by kernel_rfl) (by decide) (fun _ _ _ h => h) (yields_of (by rfl) (fun w9 hS => (by obtain ⟨z_0, z_1, z_2, z_3, z_4, z_5⟩ := hS; go_simp; try rfl))) sS ?_
                      simp only [Act.put, List.setIfInBounds_toArray, List.set_cons_zero, List.set_cons_succ]
                      refine anybut_take 44 171 rfl rfl (by kernel_rfl) (by kernel_rfl) (by kernel_rfl) (by kernel_rfl) (by decide) (fun _ _ _ h => h) (yields_of (by rfl) (fun w9 hS => (by obtain ⟨z_0, z_1, z_2, z_3, z_4, z_5⟩ := hS; go_simp; try rfl))) sS ?_
                      simp only [Act.put, List.setIfInBounds_toArray, List.set_cons_zero, List.set_cons_succ]
                      refine anybut_take 45 172 rfl rfl (by kernel_rfl) (by kernel_rfl) (by kernel_rfl) (by kernel_rfl) (by decide) (fun _ _ _ h => h) (yields_of (by rfl) (fun w9 hS => (by obtain ⟨z_0, z_1, z_2, z_3, z_4, z_5⟩ := hS; go_simp; try rfl))) sS ?_
                      simp only [Act.put, List.setIfInBounds_toArray, List.set_cons_zero, List.set_cons_succ]
                      refine anybut_take 46 173 rfl rfl (by kernel_rfl) (by kernel_rfl) (by kernel_rfl) (by kernel_rfl) (by decide) (fun _ _ _ h => h) (yields_of (by rfl) (fun w9 hS => (by obtain ⟨z_0, z_1, z_2, z_3, z_4, z_5⟩ := hS; go_simp; try rfl))) sS ?_
                      simp only [Act.put, List.setIfInBounds_toArray, List.set_cons_zero, List.set_cons_succ]
                      refine anybut_take 47 174 rfl rfl (by kernel_rfl) (by kernel_rfl) (by kernel_rfl) (by kernel_rfl) (by decide) (fun _ _ _ h => h) (yields_of (by rfl) (fun w9 hS => (by obtain ⟨z_0, z_1, z_2, z_3, z_4, z_5⟩ := hS; go_simp; try rfl))) sS ?_
                      simp only [Act.put, List.setIfInBounds_toArray, List.set_cons_zero, List.set_cons_succ]
                      refine anybut_take 48 175 rfl rfl (by kernel_rfl) (by kernel_rfl) (by kernel_rfl) (by kernel_rfl) (by decide) (fun _ _ _ h => h) (yields_of (by rfl) (fun w9 hS => (by obtain ⟨z_0, z_1, z_2, z_3, z_4, z_5⟩ := hS; go_simp; try rfl))) sS ?_
                      simp only [Act.put, List.setIfInBounds_toArray, List.set_cons_zero, List.set_cons_succ]
                      refine anybut_take 49 176 rfl rfl (by kernel_rfl) (by kernel_rfl) (by kernel_rfl) (by kernel_rfl) (by decide) (fun _ _ _ h => h) (yields_of (by rfl) (fun w9 hS => (by obtain ⟨z_0, z_1, z_2, z_3, z_4, z_5⟩ := hS; go_simp; try rfl))) sS ?_
                      simp only [Act.put, List.setIfInBounds_toArray, List.set_cons_zero, List.set_cons_succ]
                      refine anybut_take 50 177 rfl rfl (by kernel_rfl) (by kernel_rfl) (by kernel_rfl) (by kernel_rfl) (by decide) (fun _ _ _ h => h) (yields_of (by rfl) (fun w9 hS => (by obtain ⟨z_0, z_1, z_2, z_3, z_4, z_5⟩ := hS; go_simp; try rfl))) sS ?_
                      simp only [Act.put, List.setIfInBounds_toArray, List.set_cons_zero, List.set_cons_succ]
                      refine anybut_take 51 178 rfl rfl (by kernel_rfl) (by kernel_rfl) (by kernel_rfl) (by kernel_rfl) (by decide) (fun _ _ _ h => h) (yields_of (by rfl) (fun w9 hS => (by obtain ⟨z_0, z_1, z_2, z_3, z_4, z_5⟩ := hS; go_simp; try rfl))) sS ?_
                      simp only [Act.put, List.setIfInBounds_toArray, List.set_cons_zero, List.set_cons_succ]
                      refine anybut_take 52 179 rfl rfl (by kernel_rfl) (by kernel_rfl) (by kernel_rfl) (by kernel_rfl) (by decide) (fun _ _ _ h => h) (yields_of (by rfl) (fun w9 hS => (by obtain ⟨z_0, z_1, z_2, z_3, z_4, z_5⟩ := hS; go_simp; try rfl))) sS ?_
                      simp only [Act.put, List.setIfInBounds_toArray, List.set_cons_zero, List.set_cons_succ]
                      refine anybut_take 53 180 rfl rfl (by kernel_rfl) (by kernel_rfl) (by kernel_rfl) (by kernel_rfl) (by decide) (fun _ _ _ h => h) (yields_of (by rfl) (fun w9 hS => (by obtain ⟨z_0, z_1, z_2, z_3, z_4, z_5⟩ := hS; go_simp; try rfl))) sS ?_
                      simp only [Act.put, List.setIfInBounds_toArray, List.set_cons_zero, List.set_cons_succ]
                      refine anybut_take 54 181 rfl rfl (by kernel_rfl) (by kernel_rfl) (by kernel_rfl) (by kernel_rfl) (by decide) (fun _ _ _ h => h) (yields_of (by rfl) (fun w9 hS => (by obtain ⟨z_0, z_1, z_2, z_3, z_4, z_5⟩ := hS; go_simp; try rfl))) sS ?_
                      simp only [Act.put, List.setIfInBounds_toArray, List.set_cons_zero, List.set_cons_succ]
                      refine anybut_take 55 182 rfl rfl (by kernel_rfl) (by kernel_rfl) (by kernel_rfl) (by kernel_rfl) (by decide) (fun _ _ _ h => h) (yields_of (by rfl) (fun w9 hS => (by obtain ⟨z_0, z_1, z_2, z_3, z_4, z_5⟩ := hS; go_simp; try rfl))) sS ?_
                      simp only [Act.put, List.setIfInBounds_toArray, List.set_cons_zero, List.set_cons_succ]
                      refine anybut_take 56 183 rfl rfl (by kernel_rfl) (by kernel_rfl) (by kernel_rfl) (by kernel_rfl) (by decide) (fun _ _ _ h => h) (yields_of (by rfl) (fun w9 hS => (by obtain ⟨z_0, z_1, z_2, z_3, z_4, z_5⟩ := hS; go_simp; try rfl))) sS ?_
                      simp only [Act.put, List.setIfInBounds_toArray, List.set_cons_zero, List.set_cons_succ]
                      refine anybut_take 57 184 rfl rfl (by kernel_rfl) (by kernel_rfl) (by kernel_rfl) (by kernel_rfl) (by decide) (fun _ _ _ h => h) (yields_of (by rfl) (fun w9 hS => (by obtain ⟨z_0, z_1, z_2, z_3, z_4, z_5⟩ := hS; go_simp; try rfl))) sS ?_
                      simp only [Act.put, List.setIfInBounds_toArray, List.set_cons_zero, List.set_cons_succ]
                      refine anybut_take 58 185 rfl rfl (by kernel_rfl) (by kernel_rfl) (by kernel_rfl) (by kernel_rfl) (by decide) (fun _ _ _ h => h) (yields_of (by rfl) (fun w9 hS => (by obtain ⟨z_0, z_1, z_2, z_3, z_4, z_5⟩ := hS; go_simp; try rfl))) sS ?_
                      simp only [Act.put, List.setIfInBounds_toArray, List.set_cons_zero, List.set_cons_succ]
                      refine AnyBut.one 59 rfl (by kernel_rfl) (by rfl) ?_
                      go_simp
                      refine AnyBut.done (by kernel_rfl) ?_
                      go_wp2_with fail
                      go_ret
                      exact ⟨rfl, HBU.out⟩
                · as_aux_lemma =>
                    refine anybut_take 12 139 rfl rfl (by kernel_rfl) (by kernel_rfl) (by kernel_rfl) (by kernel_rfl) (by decide) (fun _ _ _ h => h) (yields_of (by rfl) (fun w9 hS => (by obtain ⟨z_0, z_1, z_2, z_3, z_4, z_5⟩ := hS; go_simp; try rfl))) sS ?_
                    simp only [Act.put, List.setIfInBounds_toArray, List.set_cons_zero, List.set_cons_succ]
                    refine anybut_take 13 140 rfl rfl (by kernel_rfl) (by kernel_rfl) (by kernel_rfl) (by kernel_rfl) (by decide) (fun _ _ _ h => h) (yields_of (by rfl) (fun w9 hS => (by obtain ⟨z_0, z_1, z_2, z_3, z_4, z_5⟩ := hS; go_simp; try rfl))) sS ?_
                    simp only [Act.put, List.setIfInBounds_toArray, List.set_cons_zero, List.set_cons_succ]
                    refine anybut_take 14 141 rfl rfl (by kernel_rfl) (by kernel_rfl) (by kernel_rfl) (by kernel_rfl) (by decide) (fun _ _ _ h => h) (yields_of (by rfl) (fun w9 hS => (by obtain ⟨z_0, z_1, z_2, z_3, z_4, z_5⟩ := hS; go_simp; try rfl))) sS ?_
                    simp only [Act.put, List.setIfInBounds_toArray, List.set_cons_zero, List.set_cons_succ]
                    refine anybut_take 15 142 rfl rfl (by kernel_rfl) (by kernel_rfl) (by kernel_rfl) (by kernel_rfl) (by decide) (fun _ _ _ h => h) (yields_of (by rfl) (fun w9 hS => (by obtain ⟨z_0, z_1, z_2, z_3, z_4, z_5⟩ := hS; go_simp; try rfl))) sS ?_
                    simp only [Act.put, List.setIfInBounds_toArray, List.set_cons_zero, List.set_cons_succ]
                    refine anybut_take 16 143 rfl rfl (by kernel_rfl) (by kernel_rfl) (by kernel_rfl) (by kernel_rfl) (by decide) (fun _ _ _ h => h) (yields_of (by rfl) (fun w9 hS => (by obtain ⟨z_0, z_1, z_2, z_3, z_4, z_5⟩ := hS; go_simp; try rfl))) sS ?_
                    simp only [Act.put, List.setIfInBounds_toArray, List.set_cons_zero, List.set_cons_succ]
                    refine anybut_take 17 144 rfl rfl (by kernel_rfl) (by kernel_rfl) (by kernel_rfl) (by kernel_rfl) (by decide) (fun _ _ _ h => h) (yields_of (by rfl) (fun w9 hS => (by obtain ⟨z_0, z_1, z_2, z_3, z_4, z_5⟩ := hS; go_simp; try rfl))) sS ?_
                    simp only [Act.put, List.setIfInBounds_toArray, List.set_cons_zero, List.set_cons_succ]
                    refine anybut_take 18 145 rfl rfl (by kernel_rfl) (by kernel_rfl) (by kernel_rfl) (by kernel_rfl) (by decide) (fun _ _ _ h => h) (yields_of (by rfl) (fun w9 hS => (by obtain ⟨z_0, z_1, z_2, z_3, z_4, z_5⟩ := hS; go_simp; try rfl))) sS ?_
                    simp only [Act.put, List.setIfInBounds_toArray, List.set_cons_zero, List.set_cons_succ]
                    refine anybut_take 19 146 rfl rfl (by kernel_rfl) (by kernel_rfl) (by kernel_rfl) (by kernel_rfl) (by decide) (fun _ _ _ h => h) (yields_of (by rfl) (fun w9 hS => (by obtain ⟨z_0, z_1, z_2, z_3, z_4, z_5⟩ := hS; go_simp; try rfl))) sS ?_
                    simp only [Act.put, List.setIfInBounds_toArray, List.set_cons_zero, List.set_cons_succ]
                    refine anybut_take 20 147 rfl rfl (by kernel_rfl) (by kernel_rfl) (by kernel_rfl) (by kernel_rfl) (by decide) (fun _ _ _ h => h) (yields_of (by rfl) (fun w9 hS => (by obtain ⟨z_0, z_1, z_2, z_3, z_4, z_5⟩ := hS; go_simp; try rfl))) sS ?_
                    simp only [Act.put, List.setIfInBounds_toArray, List.set_cons_zero, List.set_cons_succ]
                    refine anybut_take 21 148 rfl rfl (by kernel_rfl) (by kernel_rfl) (by kernel_rfl) (by kernel_rfl) (by decide) (fun _ _ _ h => h) (yields_of (by rfl) (fun w9 hS => (by obtain ⟨z_0, z_1, z_2, z_3, z_4, z_5⟩ := hS; go_simp; try rfl))) sS ?_
                    simp only [Act.put, List.setIfInBounds_toArray, List.set_cons_zero, List.set_cons_succ]
                    refine anybut_take 22 149 rfl rfl (by kernel_rfl) (by kernel_rfl) (by kernel_rfl) (by kernel_rfl) (by decide) (fun _ _ _ h => h) (yields_of (by rfl) (fun w9 hS => (by obtain ⟨z_0, z_1, z_2, z_3, z_4, z_5⟩ := hS; go_simp; try rfl))) sS ?_
                    simp only [Act.put, List.setIfInBounds_toArray, List.set_cons_zero, List.set_cons_succ]
                    refine anybut_take 23 150 rfl rfl (by kernel_rfl) (by kernel_rfl) (by kernel_rfl) (by kernel_rfl) (by decide) (fun _ _ _ h => h) (Or.inr ⟨by rfl, rfl⟩) sS ?_
                    simp only [Act.put, List.setIfInBounds_toArray, List.set_cons_zero, List.set_cons_succ]
                    refine anybut_take 24 151 rfl rfl (by kernel_rfl) (by kernel_rfl) (by kernel_rfl) (by kernel_rfl) (by decide) (fun _ _ _ h => h) (Or.inr ⟨by rfl, rfl⟩) sS ?_
                    simp only [Act.put, List.setIfInBounds_toArray, List.set_cons_zero, List.set_cons_succ]
                    refine anybut_take 25 152 rfl rfl (by kernel_rfl) (by kernel_rfl) (by kernel_rfl) (by kernel_rfl) (by decide) (fun _ _ _ h => h) (Or.inr ⟨by rfl, rfl⟩) sS ?_
                    simp only [Act.put, List.setIfInBounds_toArray, List.set_cons_zero, List.set_cons_succ]
                    refine anybut_take 26 153 rfl rfl (by kernel_rfl) (by kernel_rfl) (by kernel_rfl) (by kernel_rfl) (by decide) (fun _ _ _ h => h) (Or.inr ⟨by rfl, rfl⟩) sS ?_
                    simp only [Act.put, List.setIfInBounds_toArray, List.set_cons_zero, List.set_cons_succ]
                    refine anybut_take 27 154 rfl rfl (by kernel_rfl) (by kernel_rfl) (by kernel_rfl) (by kernel_rfl) (by decide) (fun _ _ _ h => h) (Or.inr ⟨by rfl, rfl⟩) sS ?_
                    simp only [Act.put, List.setIfInBounds_toArray, List.set_cons_zero, List.set_cons_succ]
                    refine anybut_take 28 155 rfl rfl (by kernel_rfl) (by kernel_rfl) (by kernel_rfl) (by kernel_rfl) (by decide) (fun _ _ _ h => h) (Or.inr ⟨by rfl, rfl⟩) sS ?_
                    simp only [Act.put, List.setIfInBounds_toArray, List.set_cons_zero, List.set_cons_succ]
                    refine anybut_take 29 156 rfl rfl (by kernel_rfl) (by kernel_rfl) (by kernel_rfl) (by kernel_rfl) (by decide) (fun _ _ _ h => h) (Or.inr ⟨by rfl, rfl⟩) sS ?_
                    simp only [Act.put, List.setIfInBounds_toArray, List.set_cons_zero, List.set_cons_succ]
                    refine anybut_take 30 157 rfl rfl (by kernel_rfl) (by kernel_rfl) (by kernel_rfl) (by kernel_rfl) (by decide) (fun _ _ _ h => h) (yields_of (by rfl) (fun w9 hS => (by obtain ⟨z_0, z_1, z_2, z_3, z_4, z_5⟩ := hS; go_simp; try rfl))) sS ?_
                    simp only [Act.put, List.setIfInBounds_toArray, List.set_cons_zero, List.set_cons_succ]
                    refine anybut_take 31 158 rfl rfl (by kernel_rfl) (by kernel_rfl) (by kernel_rfl) (by kernel_rfl) (by decide) (fun _ _ _ h => h) (yields_of (by rfl) (fun w9 hS => (by obtain ⟨z_0, z_1, z_2, z_3, z_4, z_5⟩ := hS; go_simp; try rfl))) sS ?_
                    simp only [Act.put, List.setIfInBounds_toArray, List.set_cons_zero, List.set_cons_succ]
                    refine anybut_take 32 159 rfl rfl (by kernel_rfl) (by kernel_rfl) (by kernel_rfl) (by kernel_rfl) (by decide) (fun _ _ _ h => h) (yields_of (by rfl) (fun w9 hS => (by obtain ⟨z_0, z_1, z_2, z_3, z_4, z_5⟩ := hS; go_simp; try rfl))) sS ?_
                    simp only [Act.put, List.setIfInBounds_toArray, List.set_cons_zero, List.set_cons_succ]
                    refine anybut_take 33 160 rfl rfl (by kernel_rfl) (by kernel_rfl) (by kernel_rfl) (by kernel_rfl) (by decide) (fun _ _ _ h => h) (yields_of (by rfl) (fun w9 hS => (by obtain ⟨z_0, z_1, z_2, z_3, z_4, z_5⟩ := hS; go_simp; try rfl))) sS ?_
                    simp only [Act.put, List.setIfInBounds_toArray, List.set_cons_zero, List.set_cons_succ]
                    refine anybut_take 34 161 rfl rfl (by kernel_rfl) (by kernel_rfl) (by kernel_rfl) (by kernel_rfl) (by decide) (fun _ _ _ h => h) (yields_of (by rfl) (fun w9 hS => (by obtain ⟨z_0, z_1, z_2, z_3, z_4, z_5⟩ := hS; go_simp; try rfl))) sS ?_
                    simp only [Act.put, List.setIfInBounds_toArray, List.set_cons_zero, List.set_cons_succ]
                    refine anybut_take 35 162 rfl rfl (by kernel_rfl) (by kernel_rfl) (by kernel_rfl) (by kernel_rfl) (by decide) (fun _ _ _ h => h) (yields_of (by rfl) (fun w9 hS => (by obtain ⟨z_0, z_1, z_2, z_3, z_4, z_5⟩ := hS; go_simp; try rfl))) sS ?_
                    simp only [Act.put, List.setIfInBounds_toArray, List.set_cons_zero, List.set_cons_succ]
                    refine anybut_take 36 163 rfl rfl (by kernel_rfl) (by kernel_rfl) (by kernel_rfl) (by kernel_rfl) (by decide) (fun _ _ _ h => h) (yields_of (by rfl) (fun w9 hS => (by obtain ⟨z_0, z_1, z_2, z_3, z_4, z_5⟩ := hS; go_simp; try rfl))) sS ?_
                    simp only [Act.put, List.setIfInBounds_toArray, List.set_cons_zero, List.set_cons_succ]
                    refine anybut_take 37 164 rfl rfl (by kernel_rfl) (by kernel_rfl) (by kernel_rfl) (by kernel_rfl) (by decide) (fun _ _ _ h => h) (yields_of (by rfl) (fun w9 hS => (by obtain ⟨z_0, z_1, z_2, z_3, z_4, z_5⟩ := hS; go_simp; try rfl))) sS ?_
                    simp only [Act.put, List.setIfInBounds_toArray, List.set_cons_zero, List.set_cons_succ]
                    refine anybut_take 38 165 rfl rfl (by kernel_rfl) (by kernel_rfl) (by kernel_rfl) (by kernel_rfl) (by decide) (fun _ _ _ h => h) (yields_of (by rfl) (fun w9 hS => (by obtain ⟨z_0, z_1, z_2, z_3, z_4, z_5⟩ := hS; go_simp; try rfl))) sS ?_
                    simp only [Act.put, List.setIfInBounds_toArray, List.set_cons_zero, List.set_cons_succ]
                    rcases three_pt HFA.out.2.2 with av1 | ⟨av1, av2⟩ | ⟨av1, av2, av3⟩
                    · refine anybut_take 39 166 rfl rfl (by kernel_rfl) (by kernel_rfl) (by kernel_rfl) (by kernel_rfl) (by decide) (fun _ _ _ h => h) (yields_of (by rfl) (fun w9 hS => (by obtain ⟨z_0, z_1, z_2, z_3, z_4, z_5⟩ := hS; go_simp; try rfl))) sS ?_
                      simp only [Act.put, List.setIfInBounds_toArray, List.set_cons_zero, List.set_cons_succ]
                      refine anybut_take 40 167 rfl rfl (by kernel_rfl) (by kernel_rfl) (by kernel_rfl) (by kernel_rfl) (by decide) (fun _ _ _ h => h) (yields_of (by rfl) (fun w9 hS => (by obtain ⟨z_0, z_1, z_2, z_3, z_4, z_5⟩ := hS; go_simp; try rfl))) sS ?_
                      simp only [Act.put, List.setIfInBounds_toArray, List.set_cons_zero, List.set_cons_succ]
                      refine anybut_take 41 168 rfl rfl (by kernel_rfl) (by kernel_rfl) (by kernel_rfl) (by kernel_rfl) (by decide) (fun _ _ _ h => h) (Or.inr ⟨by rfl, rfl⟩) sS ?_
                      simp only [Act.put, List.setIfInBounds_toArray, List.set_cons_zero, List.set_cons_succ]
                      refine anybut_take 42 169 rfl rfl (by kernel_rfl) (by kernel_rfl) (by kernel_rfl) (by kernel_rfl) (by decide) (fun _ _ _ h => h) (Or.inr ⟨by rfl, rfl⟩) sS ?_
                      simp only [Act.put, List.setIfInBounds_toArray, List.set_cons_zero, List.set_cons_succ]
                      refine anybut_take 43 170 rfl rfl (by kernel_rfl) (by kernel_rfl) (by kernel_rfl) (by kernel_rfl) (by decide) (fun _ _ _ h => h) (Or.inr ⟨by rfl, rfl⟩) sS ?_
                      simp only [Act.put, List.setIfInBounds_toArray, List.set_cons_zero, List.set_cons_succ]
                      refine anybut_take 44 171 rfl rfl (by kernel_rfl) (by kernel_rfl) (by kernel_rfl) (by kernel_rfl) (by decide) (fun _ _ _ h => h) (Or.inr ⟨by rfl, rfl⟩) sS ?_
                      simp only [Act.put, List.setIfInBounds_toArray, List.set_cons_zero, List.set_cons_succ]
                      refine anybut_take 45 172 rfl rfl (by kernel_rfl) (by kernel_rfl) (by kernel_rfl) (by kernel_rfl) (by decide) (fun _ _ _ h => h) (Or.inr ⟨by rfl, rfl⟩) sS ?_
                      simp only [Act.put, List.setIfInBounds_toArray, List.set_cons_zero, List.set_cons_succ]
                      refine anybut_take 46 173 rfl rfl (by kernel_rfl) (by kernel_rfl) (by kernel_rfl) (by kernel_rfl) (by decide) (fun _ _ _ h => h) (Or.inr ⟨by rfl, rfl⟩) sS ?_
                      simp only [Act.put, List.setIfInBounds_toArray, List.set_cons_zero, List.set_cons_succ]
                      refine anybut_take 47 174 rfl rfl (by kernel_rfl) (by kernel_rfl) (by kernel_rfl) (by kernel_rfl) (by decide) (fun _ _ _ h => h) (Or.inr ⟨by rfl, rfl⟩) sS ?_
                      simp only [Act.put, List.setIfInBounds_toArray, List.set_cons_zero, List.set_cons_succ]
                      refine anybut_take 48 175 rfl rfl (by kernel_rfl) (by kernel_rfl) (by kernel_rfl) (by kernel_rfl) (by decide) (fun _ _ _ h => h) (yields_of (by rfl) (fun w9 hS => (by obtain ⟨z_0, z_1, z_2, z_3, z_4, z_5⟩ := hS; go_simp; try rfl))) sS ?_
                      simp only [Act.put, List.setIfInBounds_toArray, List.set_cons_zero, List.set_cons_succ]
                      refine anybut_take 49 176 rfl rfl (by kernel_rfl) (by kernel_rfl) (by kernel_rfl) (by kernel_rfl) (by decide) (fun _ _ _ h => h) (yields_of (by rfl) (fun w9 hS => (by obtain ⟨z_0, z_1, z_2, z_3, z_4, z_5⟩ := hS; go_simp; try rfl))) sS ?_
                      simp only [Act.put, List.setIfInBounds_toArray, List.set_cons_zero, List.set_cons_succ]
                      refine anybut_take 50 177 rfl rfl (by kernel_rfl) (by kernel_rfl) (by kernel_rfl) (by kernel_rfl) (by decide) (fun _ _ _ h => h) (Or.inr ⟨by rfl, rfl⟩) sS ?_
                      simp only [Act.put, List.setIfInBounds_toArray, List.set_cons_zero, List.set_cons_succ]
                      refine anybut_take 51 178 rfl rfl (by kernel_rfl) (by kernel_rfl) (by kernel_rfl) (by kernel_rfl) (by decide) (fun _ _ _ h => h) (Or.inr ⟨by rfl, rfl⟩) sS ?_
                      simp only [Act.put, List.setIfInBounds_toArray, List.set_cons_zero, List.set_cons_succ]
                      refine anybut_take 52 179 rfl rfl (by kernel_rfl) (by kernel_rfl) (by kernel_rfl) (by kernel_rfl) (by decide) (fun _ _ _ h => h) (Or.inr ⟨by rfl, rfl⟩) sS ?_
                      simp only [Act.put, List.setIfInBounds_toArray, List.set_cons_zero, List.set_cons_succ]
                      refine anybut_take 53 180 rfl rfl (by kernel_rfl) (by kernel_rfl) (by kernel_rfl) (by kernel_rfl) (by decide) (fun _ _ _ h => h) (Or.inr ⟨by rfl, rfl⟩) sS ?_
                      simp only [Act.put, List.setIfInBounds_toArray, List.set_cons_zero, List.set_cons_succ]
                      refine anybut_take 54 181 rfl rfl (by kernel_rfl) (by kernel_rfl) (by kernel_rfl) (by kernel_rfl) (by decide) (fun _ _ _ h => h) (Or.inr ⟨by rfl, rfl⟩) sS ?_
                      simp only [Act.put, List.setIfInBounds_toArray, List.set_cons_zero, List.set_cons_succ]
                      refine anybut_take 55 182 rfl rfl (by kernel_rfl) (by kernel_rfl) (by kernel_rfl) (by kernel_rfl) (by decide) (fun _ _ _ h => h) (Or.inr ⟨by rfl, rfl⟩) sS ?_
                      simp only [Act.put, List.setIfInBounds_toArray, List.set_cons_zero, List.set_cons_succ]
                      refine anybut_take 56 183 rfl rfl (by kernel_rfl) (by kernel_rfl) (by kernel_rfl) (by kernel_rfl) (by decide) (fun _ _ _ h => h) (Or.inr ⟨by rfl, rfl⟩) sS ?_
                      simp only [Act.put, List.setIfInBounds_toArray, List.set_cons_zero, List.set_cons_succ]
                      refine anybut_take 57 184 rfl rfl (by kernel_rfl) (by kernel_rfl) (by kernel_rfl) (by kernel_rfl) (by decide) (fun _ _ _ h => h) (yields_of (by rfl) (fun w9 hS => (by obtain ⟨z_0, z_1, z_2, z_3, z_4, z_5⟩ := hS; go_simp; try rfl))) sS ?_
                      simp only [Act.put, List.setIfInBounds_toArray, List.set_cons_zero, List.set_cons_succ]
                      refine anybut_take 58 185 rfl rfl (by kernel_rfl) (by kernel_rfl) (by kernel_rfl) (by kernel_rfl) (by decide) (fun _ _ _ h => h) (yields_of (by rfl) (fun w9 hS => (by obtain ⟨z_0, z_1, z_2, z_3, z_4, z_5⟩ := hS; go_simp; try rfl))) sS ?_
                      simp only [Act.put, List.setIfInBounds_toArray, List.set_cons_zero, List.set_cons_succ]
                      refine AnyBut.one 59 rfl (by kernel_rfl) (by rfl) ?_
                      go_simp
                      refine AnyBut.done (by kernel_rfl) ?_
                      go_wp2_with fail
                      go_ret
                      exact ⟨rfl, HBU.out⟩
                    · refine anybut_take 39 166 rfl rfl (by kernel_rfl) (by kernel_rfl) (by kernel_rfl) (by kernel_rfl) (by decide) (fun _ _ _ h => h) (yields_of (by rfl) (fun w9 hS => (by obtain ⟨z_0, z_1, z_2, z_3, z_4, z_5⟩ := hS; go_simp; try rfl))) sS ?_
                      simp only [Act.put, List.setIfInBounds_toArray, List.set_cons_zero, List.set_cons_succ]
                      refine anybut_take 40 167 rfl rfl (by kernel_rfl) (by kernel_rfl) (by kernel_rfl) (by kernel_rfl) (by decide) (fun _ _ _ h => h) (yields_of (by rfl) (fun w9 hS => (by obtain ⟨z_0, z_1, z_2, z_3, z_4, z_5⟩ := hS; go_simp; try rfl))) sS ?_
                      simp only [Act.put, List.setIfInBounds_toArray, List.set_cons_zero, List.set_cons_succ]
                      refine anybut_take 41 168 rfl rfl (by kernel_rfl) (by kernel_rfl) (by kernel_rfl) (by kernel_rfl) (by decide) (fun _ _ _ h => h) (yields_of (by rfl) (fun w9 hS => (by obtain ⟨z_0, z_1, z_2, z_3, z_4, z_5⟩ := hS; go_simp; try rfl))) sS ?_
                      simp only [Act.put, List.setIfInBounds_toArray, List.set_cons_zero, List.set_cons_succ]
                      refine anybut_take 42 169 rfl rfl (by kernel_rfl) (by kernel_rfl) (by kernel_rfl) (by kernel_rfl) (by decide) (fun _ _ _ h => h) (yields_of (by rfl) (fun w9 hS => (by obtain ⟨z_0, z_1, z_2, z_3, z_4, z_5⟩ := hS; go_simp; try rfl))) sS ?_
                      simp only [Act.put, List.setIfInBounds_toArray, List.set_cons_zero, List.set_cons_succ]
                      refine anybut_take 43 170 rfl rfl (by kernel_rfl) (by kernel_rfl) (by kernel_rfl) (by kernel_rfl) (by decide) (fun _ _ _ h => h) (yields_of (by rfl) (fun w9 hS => (by obtain ⟨z_0, z_1, z_2, z_3, z_4, z_5⟩ := hS; go_simp; try rfl))) sS ?_
                      simp only [Act.put, List.setIfInBounds_toArray, List.set_cons_zero, List.set_cons_succ]
                      refine anybut_take 44 171 rfl rfl (by kernel_rfl) (by kernel_rfl) (by kernel_rfl) (by kernel_rfl) (by decide) (fun _ _ _ h => h) (yields_of (by rfl) (fun w9 hS => (by obtain ⟨z_0, z_1, z_2, z_3, z_4, z_5⟩ := hS; go_simp; try rfl))) sS ?_
                      simp only [Act.put, List.setIfInBounds_toArray, List.set_cons_zero, List.set_cons_succ]
                      refine anybut_take 45 172 rfl rfl (by kernel_rfl) (by kernel_rfl) (by kernel_rfl) (by kernel_rfl) (by decide) (fun _ _ _ h => h) (yields_of (by rfl) (fun w9 hS => (by obtain ⟨z_0, z_1, z_2, z_3, z_4, z_5⟩ := hS; go_simp; try rfl))) sS ?_
                      simp only [Act.put, List.setIfInBounds_toArray, List.set_cons_zero, List.set_cons_succ]
                      refine anybut_take 46 173 rfl rfl (by kernel_rfl) (by kernel_rfl) (by kernel_rfl) (by kernel_rfl) (by decide) (fun _ _ _ h => h) (yields_of (by rfl) (fun w9 hS => (by obtain ⟨z_0, z_1, z_2, z_3, z_4, z_5⟩ := hS; go_simp; try rfl))) sS ?_
                      simp only [Act.put, List.setIfInBounds_toArray, List.set_cons_zero, List.set_cons_succ]
                      refine anybut_take 47 174 rfl rfl (by kernel_rfl) (by kernel_rfl) (by kernel_rfl) (by kernel_rfl) (by decide) (fun _ _ _ h => h) (yields_of (by rfl) (fun w9 hS => (by obtain ⟨z_0, z_1, z_2, z_3, z_4, z_5⟩ := hS; go_simp; try rfl))) sS ?_
                      simp only [Act.put, List.setIfInBounds_toArray, List.set_cons_zero, List.set_cons_succ]
                      refine anybut_take 48 175 rfl rfl (by kernel_rfl) (by kernel_rfl) (by kernel_rfl) (by kernel_rfl) (by decide) (fun _ _ _ h => h) (yields_of (by rfl) (fun w9 hS => (by obtain ⟨z_0, z_1, z_2, z_3, z_4, z_5⟩ := hS; go_simp; try rfl))) sS ?_
                      simp only [Act.put, List.setIfInBounds_toArray, List.set_cons_zero, List.set_cons_succ]
                      refine anybut_take 49 176 rfl rfl (by kernel_rfl) (by kernel_rfl) (by kernel_rfl) (by kernel_rfl) (by decide) (fun _ _ _ h => h) (yields_of (by rfl) (fun w9 hS => (by obtain ⟨z_0, z_1, z_2, z_3, z_4, z_5⟩ := hS; go_simp; try rfl))) sS ?_
                      simp only [Act.put, List.setIfInBounds_toArray, List.set_cons_zero, List.set_cons_succ]
                      refine anybut_take 50 177 rfl rfl (by kernel_rfl) (by kernel_rfl) (by kernel_rfl) (by kernel_rfl) (by decide) (fun _ _ _ h => h) (Or.inr ⟨by rfl, rfl⟩) sS ?_
                      simp only [Act.put, List.setIfInBounds_toArray, List.set_cons_zero, List.set_cons_succ]
                      refine anybut_take 51 178 rfl rfl (by kernel_rfl) (by kernel_rfl) (by kernel_rfl) (by kernel_rfl) (by decide) (fun _ _ _ h => h) (Or.inr ⟨by rfl, rfl⟩) sS ?_
                      simp only [Act.put, List.setIfInBounds_toArray, List.set_cons_zero, List.set_cons_succ]
                      refine anybut_take 52 179 rfl rfl (by kernel_rfl) (by kernel_rfl) (by kernel_rfl) (by kernel_rfl) (by decide) (fun _ _ _ h => h) (Or.inr ⟨by rfl, rfl⟩) sS ?_
                      simp only [Act.put, List.setIfInBounds_toArray, List.set_cons_zero, List.set_cons_succ]
                      refine anybut_take 53 180 rfl rfl (by kernel_rfl) (by kernel_rfl) (by kernel_rfl) (by kernel_rfl) (by decide) (fun _ _ _ h => h) (Or.inr ⟨by rfl, rfl⟩) sS ?_
                      simp only [Act.put, List.setIfInBounds_toArray, List.set_cons_zero, List.set_cons_succ]
                      refine anybut_take 54 181 rfl rfl (by kernel_rfl) (by kernel_rfl) (by kernel_rfl) (by kernel_rfl) (by decide) (fun _ _ _ h => h) (Or.inr ⟨by rfl, rfl⟩) sS ?_
                      simp only [Act.put, List.setIfInBounds_toArray, List.set_cons_zero, List.set_cons_succ]
                      refine anybut_take 55 182 rfl rfl (by kernel_rfl) (by kernel_rfl) (by kernel_rfl) (by kernel_rfl) (by decide) (fun _ _ _ h => h) (Or.inr ⟨by rfl, rfl⟩) sS ?_
                      simp only [Act.put, List.setIfInBounds_toArray, List.set_cons_zero, List.set_cons_succ]
                      refine anybut_take 56 183 rfl rfl (by kernel_rfl) (by kernel_rfl) (by kernel_rfl) (by kernel_rfl) (by decide) (fun _ _ _ h => h) (Or.inr ⟨by rfl, rfl⟩) sS ?_
                      simp only [Act.put, List.setIfInBounds_toArray, List.set_cons_zero, List.set_cons_succ]
                      refine anybut_take 57 184 rfl rfl (by kernel_rfl) (by kernel_rfl) (by kernel_rfl) (by kernel_rfl) (by decide) (fun _ _ _ h => h) (yields_of (by rfl) (fun w9 hS => (by obtain ⟨z_0, z_1, z_2, z_3, z_4, z_5⟩ := hS; go_simp; try rfl))) sS ?_
                      simp only [Act.put, List.setIfInBounds_toArray, List.set_cons_zero, List.set_cons_succ]
                      refine anybut_take 58 185 rfl rfl (by kernel_rfl) (by kernel_rfl) (by kernel_rfl) (by kernel_rfl) (by decide) (fun _ _ _ h => h) (yields_of (by rfl) (fun w9 hS => (by obtain ⟨z_0, z_1, z_2, z_3, z_4, z_5⟩ := hS; go_simp; try rfl))) sS ?_
                      simp only [Act.put, List.setIfInBounds_toArray, List.set_cons_zero, List.set_cons_succ]
                      refine AnyBut.one 59 rfl (by kernel_rfl) (by rfl) ?_
                      go_simp
                      refine AnyBut.done (by kernel_rfl) ?_
                      go_wp2_with fail
                      go_ret
                      exact ⟨rfl, HBU.out⟩
                    · refine anybut_take 39 166 rfl rfl (by kernel_rfl) (by kernel_rfl) (by kernel_rfl) (by kernel_rfl) (by decide) (fun _ _ _ h => h) (yields_of (by rfl) (fun w9 hS => (by obtain ⟨z_0, z_1, z_2, z_3, z_4, z_5⟩ := hS; go_simp; try rfl))) sS ?_
                      simp only [Act.put, List.setIfInBounds_toArray, List.set_cons_zero, List.set_cons_succ]
                      refine anybut_take 40 167 rfl rfl (by kernel_rfl) (by kernel_rfl) (by kernel_rfl) (by kernel_rfl) (by decide) (fun _ _ _ h => h) (yields_of (by rfl) (fun w9 hS => (by obtain ⟨z_0, z_1, z_2, z_3, z_4, z_5⟩ := hS; go_simp; try rfl))) sS ?_
                      simp only [Act.put, List.setIfInBounds_toArray, List.set_cons_zero, List.set_cons_succ]
                      refine anybut_take 41 168 rfl rfl (by kernel_rfl) (by kernel_rfl) (by kernel_rfl) (by kernel_rfl) (by decide) (fun _ _ _ h => h) (yields_of (by rfl) (fun w9 hS => (by obtain ⟨z_0, z_1, z_2, z_3, z_4, z_5⟩ := hS; go_simp; try rfl))) sS ?_
                      simp only [Act.put, List.setIfInBounds_toArray, List.set_cons_zero, List.set_cons_succ]
                      refine anybut_take 42 169 rfl rfl (by kernel_rfl) (by kernel_rfl) (by kernel_rfl) (by kernel_rfl) (by decide) (fun _ _ _ h => h) (yields_of (by rfl) (fun w9 hS => (by obtain ⟨z_0, z_1, z_2, z_3, z_4, z_5⟩ := hS; go_simp; try rfl))) sS ?_
                      simp only [Act.put, List.setIfInBounds_toArray, List.set_cons_zero, List.set_cons_succ]
                      refine anybut_take 43 170 rfl rfl (by kernel_rfl) (by kernel_rfl) (by kernel_rfl) (by kernel_rfl) (by decide) (fun _ _ _ h => h) (yields_of (by rfl) (fun w9 hS => (by obtain ⟨z_0, z_1, z_2, z_3, z_4, z_5⟩ := hS; go_simp; try rfl))) sS ?_
                      simp only [Act.put, List.setIfInBounds_toArray, List.set_cons_zero, List.set_cons_succ]
                      refine anybut_take 44 171 rfl rfl (by kernel_rfl) (by kernel_rfl) (by kernel_rfl) (by kernel_rfl) (by decide) (fun _ _ _ h => h) (yields_of (by rfl) (fun w9 hS => (by obtain ⟨z_0, z_1, z_2, z_3, z_4, z_5⟩ := hS; go_simp; try rfl))) sS ?_
                      simp only [Act.put, List.setIfInBounds_toArray, List.set_cons_zero, List.set_cons_succ]
                      refine anybut_take 45 172 rfl rfl (by kernel_rfl) (by kernel_rfl) (by kernel_rfl) (by kernel_rfl) (by decide) (fun _ _ _ h => h) (yields_of (by rfl) (fun w9 hS => (by obtain ⟨z_0, z_1, z_2, z_3, z_4, z_5⟩ := hS; go_simp; try rfl))) sS ?_
                      simp only [Act.put, List.setIfInBounds_toArray, List.set_cons_zero, List.set_cons_succ]
                      refine anybut_take 46 173 rfl rfl (by kernel_rfl) (by kernel_rfl) (by kernel_rfl) (by kernel_rfl) (by decide) (fun _ _ _ h => h) (yields_of (by rfl) (fun w9 hS => (by obtain ⟨z_0, z_1, z_2, z_3, z_4, z_5⟩ := hS; go_simp; try rfl))) sS ?_
                      simp only [Act.put, List.setIfInBounds_toArray, List.set_cons_zero, List.set_cons_succ]
                      refine anybut_take 47 174 rfl rfl (by kernel_rfl) (by kernel_rfl) (by kernel_rfl) (by kernel_rfl) (by decide) (fun _ _ _ h => h) (yields_of (by rfl) (fun w9 hS => (by obtain ⟨z_0, z_1, z_2, z_3, z_4, z_5⟩ := hS; go_simp; try rfl))) sS ?_
                      simp only [Act.put, List.setIfInBounds_toArray, List.set_cons_zero, List.set_cons_succ]
                      refine anybut_take 48 175 rfl rfl (by kernel_rfl) (by kernel_rfl) (by kernel_rfl) (by kernel_rfl) (by decide) (fun _ _ _ h => h) (yields_of (by rfl) (fun w9 hS => (by obtain ⟨z_0, z_1, z_2, z_3, z_4, z_5⟩ := hS; go_simp; try rfl))) sS ?_
                      simp only [Act.put, List.setIfInBounds_toArray, List.set_cons_zero, List.set_cons_succ]
                      refine anybut_take 49 176 rfl rfl (by kernel_rfl) (by kernel_rfl) (by kernel_rfl) (by kernel_rfl) (by decide) (fun _ _ _ h => h) (yields_of (by rfl) (fun w9 hS => (by obtain ⟨z_0, z_1, z_2, z_3, z_4, z_5⟩ := hS; go_simp; try rfl))) sS ?_
                      simp only [Act.put, List.setIfInBounds_toArray, List.set_cons_zero, List.set_cons_succ]
                      refine anybut_take 50 177 rfl rfl (by kernel_rfl) (by kernel_rfl) (by kernel_rfl) (by kernel_rfl) (by decide) (fun _ _ _ h => h) (yields_of (by rfl) (fun w9 hS => (by obtain ⟨z_0, z_1, z_2, z_3, z_4, z_5⟩ := hS; go_simp; try rfl))) sS ?_
                      simp only [Act.put, List.setIfInBounds_toArray, List.set_cons_zero, List.set_cons_succ]
                      refine anybut_take 51 178 rfl rfl (by kernel_rfl) (by kernel_rfl) (by kernel_rfl) (by kernel_rfl) (by decide) (fun _ _ _ h => h) (yields_of (by rfl) (fun w9 hS => (by obtain ⟨z_0, z_1, z_2, z_3, z_4, z_5⟩ := hS; go_simp; try rfl))) sS ?_
                      simp only [Act.put, List.setIfInBounds_toArray, List.set_cons_zero, List.set_cons_succ]
                      refine anybut_take 52 179 rfl rfl (by kernel_rfl) (by kernel_rfl) (by kernel_rfl) (by kernel_rfl) (by decide) (fun _ _ _ h => h) (yields_of (by rfl) (fun w9 hS => (by obtain ⟨z_0, z_1, z_2, z_3, z_4, z_5⟩ := hS; go_simp; try rfl))) sS ?_
                      simp only [Act.put, List.setIfInBounds_toArray, List.set_cons_zero, List.set_cons_succ]
                      refine anybut_take 53 180 rfl rfl (by kernel_rfl) (by kernel_rfl) (by kernel_rfl) (by kernel_rfl) (by decide) (fun _ _ _ h => h) (yields_of (by rfl) (fun w9 hS => (by obtain ⟨z_0, z_1, z_2, z_3, z_4, z_5⟩ := hS; go_simp; try rfl))) sS ?_
                      simp only [Act.put, List.setIfInBounds_toArray, List.set_cons_zero, List.set_cons_succ]
                      refine anybut_take 54 181 rfl rfl (by kernel_rfl) (by kernel_rfl) (by kernel_rfl) (by kernel_rfl) (by decide) (fun _ _ _ h => h) (yields_of (by rfl) (fun w9 hS => (by obtain ⟨z_0, z_1, z_2, z_3, z_4, z_5⟩ := hS; go_simp; try rfl))) sS ?_
                      simp only [Act.put, List.setIfInBounds_toArray, List.set_cons_zero, List.set_cons_succ]
                      refine anybut_take 55 182 rfl rfl (by kernel_rfl) (by kernel_rfl) (by kernel_rfl) (by kernel_rfl) (by decide) (fun _ _ _ h => h) (yields_of (by rfl) (fun w9 hS => (by obtain ⟨z_0, z_1, z_2, z_3, z_4, z_5⟩ := hS; go_simp; try rfl))) sS ?_
                      simp only [Act.put, List.setIfInBounds_toArray, List.set_cons_zero, List.set_cons_succ]
                      refine anybut_take 56 183 rfl rfl (by kernel_rfl) (by kernel_rfl) (by kernel_rfl) (by kernel_rfl) (by decide) (fun _ _ _ h => h) (yields_of (by rfl) (fun w9 hS => (by obtain ⟨z_0, z_1, z_2, z_3, z_4, z_5⟩ := hS; go_simp; try rfl))) sS ?_
                      simp only [Act.put, List.setIfInBounds_toArray, List.set_cons_zero, List.set_cons_succ]
                      refine anybut_take 57 184 rfl rfl (by kernel_rfl) (by kernel_rfl) (by kernel_rfl) (by kernel_rfl) (by decide) (fun _ _ _ h => h) (yields_of (by rfl) (fun w9 hS => (by obtain ⟨z_0, z_1, z_2, z_3, z_4, z_5⟩ := hS; go_simp; try rfl))) sS ?_
                      simp only [Act.put, List.setIfInBounds_toArray, List.set_cons_zero, List.set_cons_succ]
                      refine anybut_take 58 185 rfl rfl (by kernel_rfl) (by kernel_rfl) (by kernel_rfl) (by kernel_rfl) (by decide) (fun _ _ _ h => h) (yields_of (by rfl) (fun w9 hS => (by obtain ⟨z_0, z_1, z_2, z_3, z_4, z_5⟩ := hS; go_simp; try rfl))) sS ?_
                      simp only [Act.put, List.setIfInBounds_toArray, List.set_cons_zero, List.set_cons_succ]
                      refine AnyBut.one 59 rfl (by kernel_rfl) (by rfl) ?_
                      go_simp
                      refine AnyBut.done (by kernel_rfl) ?_
                      go_wp2_with fail
                      go_ret
                      exact ⟨rfl, HBU.out⟩
                · as_aux_lemma =>
                    refine anybut_take 12 139 rfl rfl (by kernel_rfl) (by kernel_rfl) (by kernel_rfl) (by kernel_rfl) (by decide) (fun _ _ _ h => h) (yields_of (by rfl) (fun w9 hS => (by obtain ⟨z_0, z_1, z_2, z_3, z_4, z_5⟩ := hS; go_simp; try rfl))) sS ?_
                    simp only [Act.put, List.setIfInBounds_toArray, List.set_cons_zero, List.set_cons_succ]
                    refine anybut_take 13 140 rfl rfl (by kernel_rfl) (by kernel_rfl) (by kernel_rfl) (by kernel_rfl) (by decide) (fun _ _ _ h => h) (yields_of (by rfl) (fun w9 hS => (by obtain ⟨z_0, z_1, z_2, z_3, z_4, z_5⟩ := hS; go_simp; try rfl))) sS ?_
                    simp only [Act.put, List.setIfInBounds_toArray, List.set_cons_zero, List.set_cons_succ]
                    refine anybut_take 14 141 rfl rfl (by kernel_rfl) (by kernel_rfl) (by kernel_rfl) (by kernel_rfl) (by decide) (fun _ _ _ h => h) (yields_of (by rfl) (fun w9 hS => (by obtain ⟨z_0, z_1, z_2, z_3, z_4, z_5⟩ := hS; go_simp; try rfl))) sS ?_
                    simp only [Act.put, List.setIfInBounds_toArray, List.set_cons_zero, List.set_cons_succ]
                    refine anybut_take 15 142 rfl rfl (by kernel_rfl) (by kernel_rfl) (by kernel_rfl) (by kernel_rfl) (by decide) (fun _ _ _ h => h) (yields_of (by rfl) (fun w9 hS => (by obtain ⟨z_0, z_1, z_2, z_3, z_4, z_5⟩ := hS; go_simp; try rfl))) sS ?_
                    simp only [Act.put, List.setIfInBounds_toArray, List.set_cons_zero, List.set_cons_succ]
                    refine anybut_take 16 143 rfl rfl (by kernel_rfl) (by kernel_rfl) (by kernel_rfl) (by kernel_rfl) (by decide) (fun _ _ _ h => h) (yields_of (by rfl) (fun w9 hS => (by obtain ⟨z_0, z_1, z_2, z_3, z_4, z_5⟩ := hS; go_simp; try rfl))) sS ?_
                    simp only [Act.put, List.setIfInBounds_toArray, List.set_cons_zero, List.set_cons_succ]
                    refine anybut_take 17 144 rfl rfl (by kernel_rfl) (by kernel_rfl) (by kernel_rfl) (by kernel_rfl) (by decide) (fun _ _ _ h => h) (yields_of (by rfl) (fun w9 hS => (by obtain ⟨z_0, z_1, z_2, z_3, z_4, z_5⟩ := hS; go_simp; try rfl))) sS ?_
                    simp only [Act.put, List.setIfInBounds_toArray, List.set_cons_zero, List.set_cons_succ]
                    refine anybut_take 18 145 rfl rfl (by kernel_rfl) (by kernel_rfl) (by kernel_rfl) (by kernel_rfl) (by decide) (fun _ _ _ h => h) (yields_of (by rfl) (fun w9 hS => (by obtain ⟨z_0, z_1, z_2, z_3, z_4, z_5⟩ := hS; go_simp; try rfl))) sS ?_
                    simp only [Act.put, List.setIfInBounds_toArray, List.set_cons_zero, List.set_cons_succ]
                    refine anybut_take 19 146 rfl rfl (by kernel_rfl) (by kernel_rfl) (by kernel_rfl) (by kernel_rfl) (by decide) (fun _ _ _ h => h) (yields_of (by rfl) (fun w9 hS => (by obtain ⟨z_0, z_1, z_2, z_3, z_4, z_5⟩ := hS; go_simp; try rfl))) sS ?_
                    simp only [Act.put, List.setIfInBounds_toArray, List.set_cons_zero, List.set_cons_succ]
                    refine anybut_take 20 147 rfl rfl (by kernel_rfl) (by kernel_rfl) (by kernel_rfl) (by kernel_rfl) (by decide) (fun _ _ _ h => h) (yields_of (by rfl) (fun w9 hS => (by obtain ⟨z_0, z_1, z_2, z_3, z_4, z_5⟩ := hS; go_simp; try rfl))) sS ?_
                    simp only [Act.put, List.setIfInBounds_toArray, List.set_cons_zero, List.set_cons_succ]
                    refine anybut_take 21 148 rfl rfl (by kernel_rfl) (by kernel_rfl) (by kernel_rfl) (by kernel_rfl) (by decide) (fun _ _ _ h => h) (yields_of (by rfl) (fun w9 hS => (by obtain ⟨z_0, z_1, z_2, z_3, z_4, z_5⟩ := hS; go_simp; try rfl))) sS ?_
                    simp only [Act.put, List.setIfInBounds_toArray, List.set_cons_zero, List.set_cons_succ]
                    refine anybut_take 22 149 rfl rfl (by kernel_rfl) (by kernel_rfl) (by kernel_rfl) (by kernel_rfl) (by decide) (fun _ _ _ h => h) (yields_of (by rfl) (fun w9 hS => (by obtain ⟨z_0, z_1, z_2, z_3, z_4, z_5⟩ := hS; go_simp; try rfl))) sS ?_
                    simp only [Act.put, List.setIfInBounds_toArray, List.set_cons_zero, List.set_cons_succ]
                    refine anybut_take 23 150 rfl rfl (by kernel_rfl) (by kernel_rfl) (by kernel_rfl) (by kernel_rfl) (by decide) (fun _ _ _ h => h) (yields_of (by rfl) (fun w9 hS => (by obtain ⟨z_0, z_1, z_2, z_3, z_4, z_5⟩ := hS; go_simp; try rfl))) sS ?_
                    simp only [Act.put, List.setIfInBounds_toArray, List.set_cons_zero, List.set_cons_succ]
                    refine anybut_take 24 151 rfl rfl (by kernel_rfl) (by kernel_rfl) (by kernel_rfl) (by kernel_rfl) (by decide) (fun _ _ _ h => h) (yields_of (by rfl) (fun w9 hS => (by obtain ⟨z_0, z_1, z_2, z_3, z_4, z_5⟩ := hS; go_simp; try rfl))) sS ?_
                    simp only [Act.put, List.setIfInBounds_toArray, List.set_cons_zero, List.set_cons_succ]
                    refine anybut_take 25 152 rfl rfl (by kernel_rfl) (by kernel_rfl) (by kernel_rfl) (by kernel_rfl) (by decide) (fun _ _ _ h => h) (yields_of (by rfl) (fun w9 hS => (by obtain ⟨z_0, z_1, z_2, z_3, z_4, z_5⟩ := hS; go_simp; try rfl))) sS ?_
                    simp only [Act.put, List.setIfInBounds_toArray, List.set_cons_zero, List.set_cons_succ]
                    refine anybut_take 26 153 rfl rfl (by kernel_rfl) (by kernel_rfl) (by kernel_rfl) (by kernel_rfl) (by decide) (fun _ _ _ h => h) (yields_of (by rfl) (fun w9 hS => (by obtain ⟨z_0, z_1, z_2, z_3, z_4, z_5⟩ := hS; go_simp; try rfl))) sS ?_
                    simp only [Act.put, List.setIfInBounds_toArray, List.set_cons_zero, List.set_cons_succ]
                    refine anybut_take 27 154 rfl rfl (by kernel_rfl) (by kernel_rfl) (by kernel_rfl) (by kernel_rfl) (by decide) (fun _ _ _ h => h) (yields_of (by rfl) (fun w9 hS => (by obtain ⟨z_0, z_1, z_2, z_3, z_4, z_5⟩ := hS; go_simp; try rfl))) sS ?_
                    simp only [Act.put, List.setIfInBounds_toArray, List.set_cons_zero, List.set_cons_succ]
                    refine anybut_take 28 155 rfl rfl (by kernel_rfl) (by kernel_rfl) (by kernel_rfl) (by kernel_rfl) (by decide) (fun _ _ _ h => h) (yields_of (by rfl) (fun w9 hS => (by obtain ⟨z_0, z_1, z_2, z_3, z_4, z_5⟩ := hS; go_simp; try rfl))) sS ?_
                    simp only [Act.put, List.setIfInBounds_toArray, List.set_cons_zero, List.set_cons_succ]
                    refine anybut_take 29 156 rfl rfl (by kernel_rfl) (by kernel_rfl) (by kernel_rfl) (by kernel_rfl) (by decide) (fun _ _ _ h => h) (yields_of (by rfl) (fun w9 hS => (by obtain ⟨z_0, z_1, z_2, z_3, z_4, z_5⟩ := hS; go_simp; try rfl))) sS ?_
                    simp only [Act.put, List.setIfInBounds_toArray, List.set_cons_zero, List.set_cons_succ]
                    refine anybut_take 30 157 rfl rfl (by kernel_rfl) (by kernel_rfl) (by kernel_rfl) (by kernel_rfl) (by decide) (fun _ _ _ h => h) (yields_of (by rfl) (fun w9 hS => (by obtain ⟨z_0, z_1, z_2, z_3, z_4, z_5⟩ := hS; go_simp; try rfl))) sS ?_
                    simp only [Act.put, List.setIfInBounds_toArray, List.set_cons_zero, List.set_cons_succ]
                    refine anybut_take 31 158 rfl rfl (by kernel_rfl) (by kernel_rfl) (by kernel_rfl) (by kernel_rfl) (by decide) (fun _ _ _ h => h) (yields_of (by rfl) (fun w9 hS => (by obtain ⟨z_0, z_1, z_2, z_3, z_4, z_5⟩ := hS; go_simp; try rfl))) sS ?_
                    simp only [Act.put, List.setIfInBounds_toArray, List.set_cons_zero, List.set_cons_succ]
                    refine anybut_take 32 159 rfl rfl (by kernel_rfl) (by kernel_rfl) (by kernel_rfl) (by kernel_rfl) (by decide) (fun _ _ _ h => h) (yields_of (by rfl) (fun w9 hS => (by obtain ⟨z_0, z_1, z_2, z_3, z_4, z_5⟩ := hS; go_simp; try rfl))) sS ?_
                    simp only [Act.put, List.setIfInBounds_toArray, List.set_cons_zero, List.set_cons_succ]
                    refine anybut_take 33 160 rfl rfl (by kernel_rfl) (by kernel_rfl) (by kernel_rfl) (by kernel_rfl) (by decide) (fun _ _ _ h => h) (yields_of (by rfl) (fun w9 hS => (by obtain ⟨z_0, z_1, z_2, z_3, z_4, z_5⟩ := hS; go_simp; try rfl))) sS ?_
                    simp only [Act.put, List.setIfInBounds_toArray, List.set_cons_zero, List.set_cons_succ]
                    refine anybut_take 34 161 rfl rfl (by kernel_rfl) (by kernel_rfl) (by kernel_rfl) (by kernel_rfl) (by decide) (fun _ _ _ h => h) (yields_of (by rfl) (fun w9 hS => (by obtain ⟨z_0, z_1, z_2, z_3, z_4, z_5⟩ := hS; go_simp; try rfl))) sS ?_
                    simp only [Act.put, List.setIfInBounds_toArray, List.set_cons_zero, List.set_cons_succ]
                    refine anybut_take 35 162 rfl rfl (by kernel_rfl) (by kernel_rfl) (by kernel_rfl) (by kernel_rfl) (by decide) (fun _ _ _ h => h) (yields_of (by rfl) (fun w9 hS => (by obtain ⟨z_0, z_1, z_2, z_3, z_4, z_5⟩ := hS; go_simp; try rfl))) sS ?_
                    simp only [Act.put, List.setIfInBounds_toArray, List.set_cons_zero, List.set_cons_succ]
                    refine anybut_take 36 163 rfl rfl (by kernel_rfl) (by kernel_rfl) (by kernel_rfl) (by kernel_rfl) (by decide) (fun _ _ _ h => h) (yields_of (by rfl) (fun w9 hS => (by obtain ⟨z_0, z_1, z_2, z_3, z_4, z_5⟩ := hS; go_simp; try rfl))) sS ?_
                    simp only [Act.put, List.setIfInBounds_toArray, List.set_cons_zero, List.set_cons_succ]
                    refine anybut_take 37 164 rfl rfl (by kernel_rfl) (by kernel_rfl) (by kernel_rfl) (by kernel_rfl) (by decide) (fun _ _ _ h => h) (yields_of (by rfl) (fun w9 hS => (by obtain ⟨z_0, z_1, z_2, z_3, z_4, z_5⟩ := hS; go_simp; try rfl))) sS ?_
                    simp only [Act.put, List.setIfInBounds_toArray, List.set_cons_zero, List.set_cons_succ]
                    refine anybut_take 38 165 rfl rfl (by kernel_rfl) (by kernel_rfl) (by kernel_rfl) (by kernel_rfl) (by decide) (fun _ _ _ h => h) (yields_of (by rfl) (fun w9 hS => (by obtain ⟨z_0, z_1, z_2, z_3, z_4, z_5⟩ := hS; go_simp; try rfl))) sS ?_
                    simp only [Act.put, List.setIfInBounds_toArray, List.set_cons_zero, List.set_cons_succ]
                    rcases three_pt HFA.out.2.2 with av1 | ⟨av1, av2⟩ | ⟨av1, av2, av3⟩
                    · refine anybut_take 39 166 rfl rfl (by kernel_rfl) (by kernel_rfl) (by kernel_rfl) (by kernel_rfl) (by decide) (fun _ _ _ h => h) (yields_of (by rfl) (fun w9 hS => (by obtain ⟨z_0, z_1, z_2, z_3, z_4, z_5⟩ := hS; go_simp; try rfl))) sS ?_
                      simp only [Act.put, List.setIfInBounds_toArray, List.set_cons_zero, List.set_cons_succ]
                      refine anybut_take 40 167 rfl rfl (by kernel_rfl) (by kernel_rfl) (by kernel_rfl) (by kernel_rfl) (by decide) (fun _ _ _ h => h) (yields_of (by rfl) (fun w9 hS => (by obtain ⟨z_0, z_1, z_2, z_3, z_4, z_5⟩ := hS; go_simp; try rfl))) sS ?_
                      simp only [Act.put, List.setIfInBounds_toArray, List.set_cons_zero, List.set_cons_succ]
                      refine anybut_take 41 168 rfl rfl (by kernel_rfl) (by kernel_rfl) (by kernel_rfl) (by kernel_rfl) (by decide) (fun _ _ _ h => h) (Or.inr ⟨by rfl, rfl⟩) sS ?_
                      simp only [Act.put, List.setIfInBounds_toArray, List.set_cons_zero, List.set_cons_succ]
                      refine anybut_take 42 169 rfl rfl (by kernel_rfl) (by kernel_rfl) (by kernel_rfl) (by kernel_rfl) (by decide) (fun _ _ _ h => h) (Or.inr ⟨by rfl, rfl⟩) sS ?_
                      simp only [Act.put, List.setIfInBounds_toArray, List.set_cons_zero, List.set_cons_succ]
                      refine anybut_take 43 170 rfl rfl (by kernel_rfl) (by kernel_rfl) (by kernel_rfl) (by kernel_rfl) (by decide) (fun _ _ _ h => h) (Or.inr ⟨by rfl, rfl⟩) sS ?_
                      simp only [Act.put, List.setIfInBounds_toArray, List.set_cons_zero, List.set_cons_succ]
                      refine anybut_take 44 171 rfl rfl (by kernel_rfl) (by kernel_rfl) (by kernel_rfl) (by kernel_rfl) (by decide) (fun _ _ _ h => h) (Or.inr ⟨by rfl, rfl⟩) sS ?_
                      simp only [Act.put, List.setIfInBounds_toArray, List.set_cons_zero, List.set_cons_succ]
                      refine anybut_take 45 172 rfl rfl (by kernel_rfl) (by kernel_rfl) (by kernel_rfl) (by kernel_rfl) (by decide) (fun _ _ _ h => h) (Or.inr ⟨by rfl, rfl⟩) sS ?_
                      simp only [Act.put, List.setIfInBounds_toArray, List.set_cons_zero, List.set_cons_succ]
                      refine anybut_take 46 173 rfl rfl (by kernel_rfl) (by kernel_rfl) (by kernel_rfl) (by kernel_rfl) (by decide) (fun _ _ _ h => h) (Or.inr ⟨by rfl, rfl⟩) sS ?_
                      simp only [Act.put, List.setIfInBounds_toArray, List.set_cons_zero, List.set_cons_succ]
                      refine anybut_take 47 174 rfl rfl (by kernel_rfl) (by kernel_rfl) (by kernel_rfl) (by kernel_rfl) (by decide) (fun _ _ _ h => h) (Or.inr ⟨by rfl, rfl⟩) sS ?_
                      simp only [Act.put, List.setIfInBounds_toArray, List.set_cons_zero, List.set_cons_succ]
                      refine anybut_take 48 175 rfl rfl (by kernel_rfl) (by kernel_rfl) (by kernel_rfl) (by kernel_rfl) (by decide) (fun _ _ _ h => h) (yields_of (by rfl) (fun w9 hS => (by obtain ⟨z_0, z_1, z_2, z_3, z_4, z_5⟩ := hS; go_simp; try rfl))) sS ?_
                      simp only [Act.put, List.setIfInBounds_toArray, List.set_cons_zero, List.set_cons_succ]
                      refine anybut_take 49 176 rfl rfl (by kernel_rfl) (by kernel_rfl) (by kernel_rfl) (by kernel_rfl) (by decide) (fun _ _ _ h => h) (yields_of (by rfl) (fun w9 hS => (by obtain ⟨z_0, z_1, z_2, z_3, z_4, z_5⟩ := hS; go_simp; try rfl))) sS ?_
                      simp only [Act.put, List.setIfInBounds_toArray, List.set_cons_zero, List.set_cons_succ]
                      refine anybut_take 50 177 rfl rfl (by kernel_rfl) (by kernel_rfl) (by kernel_rfl) (by kernel_rfl) (by decide) (fun _ _ _ h => h) (Or.inr ⟨by rfl, rfl⟩) sS ?_
                      simp only [Act.put, List.setIfInBounds_toArray, List.set_cons_zero, List.set_cons_succ]
                      refine anybut_take 51 178 rfl rfl (by kernel_rfl) (by kernel_rfl) (by kernel_rfl) (by kernel_rfl) (by decide) (fun _ _ _ h => h) (Or.inr ⟨by rfl, rfl⟩) sS ?_
                      simp only [Act.put, List.setIfInBounds_toArray, List.set_cons_zero, List.set_cons_succ]
                      refine anybut_take 52 179 rfl rfl (by kernel_rfl) (by kernel_rfl) (by kernel_rfl) (by kernel_rfl) (by decide) (fun _ _ _ h => h) (Or.inr ⟨by rfl, rfl⟩) sS ?_
                      simp only [Act.put, List.setIfInBounds_toArray, List.set_cons_zero, List.set_cons_succ]
                      refine anybut_take 53 180 rfl rfl (by kernel_rfl) (by kernel_rfl) (by kernel_rfl) (by kernel_rfl) (by decide) (fun _ _ _ h => h) (Or.inr ⟨by rfl, rfl⟩) sS ?_
                      simp only [Act.put, List.setIfInBounds_toArray, List.set_cons_zero, List.set_cons_succ]
                      refine anybut_take 54 181 rfl rfl (by kernel_rfl) (by kernel_rfl) (by kernel_rfl) (by kernel_rfl) (by decide) (fun _ _ _ h => h) (Or.inr ⟨by rfl, rfl⟩) sS ?_
                      simp only [Act.put, List.setIfInBounds_toArray, List.set_cons_zero, List.set_cons_succ]
                      refine anybut_take 55 182 rfl rfl (by kernel_rfl) (by kernel_rfl) (by kernel_rfl) (by kernel_rfl) (by decide) (fun _ _ _ h => h) (Or.inr ⟨by rfl, rfl⟩) sS ?_
                      simp only [Act.put, List.setIfInBounds_toArray, List.set_cons_zero, List.set_cons_succ]
                      refine anybut_take 56 183 rfl rfl (by kernel_rfl) (by kernel_rfl) (by kernel_rfl) (by kernel_rfl) (by decide) (fun _ _ _ h => h) (Or.inr ⟨by rfl, rfl⟩) sS ?_
                      simp only [Act.put, List.setIfInBounds_toArray, List.set_cons_zero, List.set_cons_succ]
                      refine anybut_take 57 184 rfl rfl (by kernel_rfl) (by kernel_rfl) (by kernel_rfl) (by kernel_rfl) (by decide) (fun _ _ _ h => h) (yields_of (by rfl) (fun w9 hS => (by obtain ⟨z_0, z_1, z_2, z_3, z_4, z_5⟩ := hS; go_simp; try rfl))) sS ?_
                      simp only [Act.put, List.setIfInBounds_toArray, List.set_cons_zero, List.set_cons_succ]
                      refine anybut_take 58 185 rfl rfl (by kernel_rfl) (by kernel_rfl) (by kernel_rfl) (by kernel_rfl) (by decide) (fun _ _ _ h => h) (yields_of (by rfl) (fun w9 hS => (by obtain ⟨z_0, z_1, z_2, z_3, z_4, z_5⟩ := hS; go_simp; try rfl))) sS ?_
                      simp only [Act.put, List.setIfInBounds_toArray, List.set_cons_zero, List.set_cons_succ]
                      refine AnyBut.one 59 rfl (by kernel_rfl) (by rfl) ?_
                      go_simp
                      refine AnyBut.done (by kernel_rfl) ?_
                      go_wp2_with fail
                      go_ret
                      exact ⟨rfl, HBU.out⟩
                    · refine anybut_take 39 166 rfl rfl (by kernel_rfl) (by kernel_rfl) (by kernel_rfl) (by kernel_rfl) (by decide) (fun _ _ _ h => h) (yields_of (by rfl) (fun w9 hS => (by obtain ⟨z_0, z_1, z_2, z_3, z_4, z_5⟩ := hS; go_simp; try rfl))) sS ?_
                      simp only [Act.put, List.setIfInBounds_toArray, List.set_cons_zero, List.set_cons_succ]
                      refine anybut_take 40 167 rfl rfl (by kernel_rfl) (by kernel_rfl) (by kernel_rfl) (by kernel_rfl) (by decide) (fun _ _ _ h => h) (yields_of (by rfl) (fun w9 hS => (by obtain ⟨z_0, z_1, z_2, z_3, z_4, z_5⟩ := hS; go_simp; try rfl))) sS ?_
                      simp only [Act.put, List.setIfInBounds_toArray, List.set_cons_zero, List.set_cons_succ]
                      refine anybut_take 41 168 rfl rfl (by kernel_rfl) (by kernel_rfl) (by kernel_rfl) (by kernel_rfl) (by decide) (fun _ _ _ h => h) (yields_of (by rfl) (fun w9 hS => (by obtain ⟨z_0, z_1, z_2, z_3, z_4, z_5⟩ := hS; go_simp; try rfl))) sS ?_
                      simp only [Act.put, List.setIfInBounds_toArray, List.set_cons_zero, List.set_cons_succ]
                      refine anybut_take 42 169 rfl rfl (by kernel_rfl) (by kernel_rfl) (by kernel_rfl) (by kernel_rfl) (by decide) (fun _ _ _ h => h) (yields_of (by rfl) (fun w9 hS => (by obtain ⟨z_0, z_1, z_2, z_3, z_4, z_5⟩ := hS; go_simp; try rfl))) sS ?_
                      simp only [Act.put, List.setIfInBounds_toArray, List.set_cons_zero, List.set_cons_succ]
                      refine anybut_take 43 170 rfl rfl (by kernel_rfl) (by kernel_rfl) (by kernel_rfl) (by kernel_rfl) (by decide) (fun _ _ _ h => h) (yields_of (by rfl) (fun w9 hS => (by obtain ⟨z_0, z_1, z_2, z_3, z_4, z_5⟩ := hS; go_simp; try rfl))) sS ?_
                      simp only [Act.put, List.setIfInBounds_toArray, List.set_cons_zero, List.set_cons_succ]
                      refine anybut_take 44 171 rfl rfl (by kernel_rfl) (by kernel_rfl) (by kernel_rfl) (by kernel_rfl) (by decide) (fun _ _ _ h => h) (yields_of (by rfl) (fun w9 hS => (by obtain ⟨z_0, z_1, z_2, z_3, z_4, z_5⟩ := hS; go_simp; try rfl))) sS ?_
                      simp only [Act.put, List.setIfInBounds_toArray, List.set_cons_zero, List.set_cons_succ]
                      refine anybut_take 45 172 rfl rfl (by kernel_rfl) (by kernel_rfl) (by kernel_rfl) (by kernel_rfl) (by decide) (fun _ _ _ h => h) (yields_of (by rfl) (fun w9 hS => (by obtain ⟨z_0, z_1, z_2, z_3, z_4, z_5⟩ := hS; go_simp; try rfl))) sS ?_
                      simp only [Act.put, List.setIfInBounds_toArray, List.set_cons_zero, List.set_cons_succ]
                      refine anybut_take 46 173 rfl rfl (by kernel_rfl) (by kernel_rfl) (by kernel_rfl) (by kernel_rfl) (by decide) (fun _ _ _ h => h) (yields_of (by rfl) (fun w9 hS => (by obtain ⟨z_0, z_1, z_2, z_3, z_4, z_5⟩ := hS; go_simp; try rfl))) sS ?_
                      simp only [Act.put, List.setIfInBounds_toArray, List.set_cons_zero, List.set_cons_succ]
                      refine anybut_take 47 174 rfl rfl (by kernel_rfl) (by kernel_rfl) (by kernel_rfl) (by kernel_rfl) (by decide) (fun _ _ _ h => h) (yields_of (by rfl) (fun w9 hS => (by obtain ⟨z_0, z_1, z_2, z_3, z_4, z_5⟩ := hS; go_simp; try rfl))) sS ?_
                      simp only [Act.put, List.setIfInBounds_toArray, List.set_cons_zero, List.set_cons_succ]
                      refine anybut_take 48 175 rfl rfl (by kernel_rfl) (by kernel_rfl) (by kernel_rfl) (by kernel_rfl) (by decide) (fun _ _ _ h => h) (yields_of (by rfl) (fun w9 hS => (by obtain ⟨z_0, z_1, z_2, z_3, z_4, z_5⟩ := hS; go_simp; try rfl))) sS ?_
                      simp only [Act.put, List.setIfInBounds_toArray, List.set_cons_zero, List.set_cons_succ]
                      refine anybut_take 49 176 rfl rfl (by kernel_rfl) (by kernel_rfl) (by kernel_rfl) (by kernel_rfl) (by decide) (fun _ _ _ h => h) (yields_of (by rfl) (fun w9 hS => (by obtain ⟨z_0, z_1, z_2, z_3, z_4, z_5⟩ := hS; go_simp; try rfl))) sS ?_
                      simp only [Act.put, List.setIfInBounds_toArray, List.set_cons_zero, List.set_cons_succ]
                      refine anybut_take 50 177 rfl rfl (by kernel_rfl) (by kernel_rfl) (by kernel_rfl) (by kernel_rfl) (by decide) (fun _ _ _ h => h) (Or.inr ⟨by rfl, rfl⟩) sS ?_
                      simp only [Act.put, List.setIfInBounds_toArray, List.set_cons_zero, List.set_cons_succ]
                      refine anybut_take 51 178 rfl rfl (by kernel_rfl) (by kernel_rfl) (by kernel_rfl) (by kernel_rfl) (by decide) (fun _ _ _ h => h) (Or.inr ⟨by rfl, rfl⟩) sS ?_
                      simp only [Act.put, List.setIfInBounds_toArray, List.set_cons_zero, List.set_cons_succ]
                      refine anybut_take 52 179 rfl rfl (by kernel_rfl) (by kernel_rfl) (by kernel_rfl) (by kernel_rfl) (by decide) (fun _ _ _ h => h) (Or.inr ⟨by rfl, rfl⟩) sS ?_
                      simp only [Act.put, List.setIfInBounds_toArray, List.set_cons_zero, List.set_cons_succ]
                      refine anybut_take 53 180 rfl rfl (by kernel_rfl) (by kernel_rfl) (by kernel_rfl) (by kernel_rfl) (by decide) (fun _ _ _ h => h) (Or.inr ⟨by rfl, rfl⟩) sS ?_
                      simp only [Act.put, List.setIfInBounds_toArray, List.set_cons_zero, List.set_cons_succ]
                      refine anybut_take 54 181 rfl rfl (by kernel_rfl) (by kernel_rfl) (by kernel_rfl) (by kernel_rfl) (by decide) (fun _ _ _ h => h) (Or.inr ⟨by rfl, rfl⟩) sS ?_
                      simp only [Act.put, List.setIfInBounds_toArray, List.set_cons_zero, List.set_cons_succ]
                      refine anybut_take 55 182 rfl rfl (by kernel_rfl) (by kernel_rfl) (by kernel_rfl) (by kernel_rfl) (by decide) (fun _ _ _ h => h) (Or.inr ⟨by rfl, rfl⟩) sS ?_
                      simp only [Act.put, List.setIfInBounds_toArray, List.set_cons_zero, List.set_cons_succ]
                      refine anybut_take 56 183 rfl rfl (by kernel_rfl) (by kernel_rfl) (by kernel_rfl) (by kernel_rfl) (by decide) (fun _ _ _ h => h) (Or.inr ⟨by rfl, rfl⟩) sS ?_
                      simp only [Act.put, List.setIfInBounds_toArray, List.set_cons_zero, List.set_cons_succ]
                      refine anybut_take 57 184 rfl rfl (by kernel_rfl) (by kernel_rfl) (by kernel_rfl) (by kernel_rfl) (by decide) (fun _ _ _ h => h) (yields_of (by rfl) (fun w9 hS => (by obtain ⟨z_0, z_1, z_2, z_3, z_4, z_5⟩ := hS; go_simp; try rfl))) sS ?_
                      simp only [Act.put, List.setIfInBounds_toArray, List.set_cons_zero, List.set_cons_succ]
                      refine anybut_take 58 185 rfl rfl (by kernel_rfl) (by kernel_rfl) (by kernel_rfl) (by kernel_rfl) (by decide) (fun _ _ _ h => h) (yields_of (by rfl) (fun w9 hS => (by obtain ⟨z_0, z_1, z_2, z_3, z_4, z_5⟩ := hS; go_simp; try rfl))) sS ?_
                      simp only [Act.put, List.setIfInBounds_toArray, List.set_cons_zero, List.set_cons_succ]
                      refine AnyBut.one 59 rfl (by kernel_rfl) (by rfl) ?_
                      go_simp
                      refine AnyBut.done (by kernel_rfl) ?_
                      go_wp2_with fail
                      go_ret
                      exact ⟨rfl, HBU.out⟩
                    · refine anybut_take 39 166 rfl rfl (by kernel_rfl) (by kernel_rfl) (by kernel_rfl) (by kernel_rfl) (by decide) (fun _ _ _ h => h) (yields_of (by rfl) (fun w9 hS => (by obtain ⟨z_0, z_1, z_2, z_3, z_4, z_5⟩ := hS; go_simp; try rfl))) sS ?_
                      simp only [Act.put, List.setIfInBounds_toArray, List.set_cons_zero, List.set_cons_succ]
                      refine anybut_take 40 167 rfl rfl (by kernel_rfl) (by kernel_rfl) (by kernel_rfl) (by kernel_rfl) (by decide) (fun _ _ _ h => h) (yields_of (by rfl) (fun w9 hS => (by obtain ⟨z_0, z_1, z_2, z_3, z_4, z_5⟩ := hS; go_simp; try rfl))) sS ?_
                      simp only [Act.put, List.setIfInBounds_toArray, List.set_cons_zero, List.set_cons_succ]
                      refine anybut_take 41 168 rfl rfl (by kernel_rfl) (by kernel_rfl) (by kernel_rfl) (by kernel_rfl) (by decide) (fun _ _ _ h => h) (yields_of (by rfl) (fun w9 hS => (by obtain ⟨z_0, z_1, z_2, z_3, z_4, z_5⟩ := hS; go_simp; try rfl))) sS ?_
                      simp only [Act.put, List.setIfInBounds_toArray, List.set_cons_zero, List.set_cons_succ]
                      refine anybut_take 42 169 rfl rfl (by kernel_rfl) (by kernel_rfl) (by kernel_rfl) (by kernel_rfl) (by decide) (fun _ _ _ h => h) (yields_of (by rfl) (fun w9 hS => (by obtain ⟨z_0, z_1, z_2, z_3, z_4, z_5⟩ := hS; go_simp; try rfl))) sS ?_
                      simp only [Act.put, List.setIfInBounds_toArray, List.set_cons_zero, List.set_cons_succ]
                      refine anybut_take 43 170 rfl rfl (by kernel_rfl) (by kernel_rfl) (by kernel_rfl) (by kernel_rfl) (by decide) (fun _ _ _ h => h) (yields_of (by rfl) (fun w9 hS => (by obtain ⟨z_0, z_1, z_2, z_3, z_4, z_5⟩ := hS; go_simp; try rfl))) sS ?_
                      simp only [Act.put, List.setIfInBounds_toArray, List.set_cons_zero, List.set_cons_succ]
                      refine anybut_take 44 171 rfl rfl (by kernel_rfl) (by kernel_rfl) (by kernel_rfl) (by kernel_rfl) (by decide) (fun _ _ _ h => h) (yields_of (by rfl) (fun w9 hS => (by obtain ⟨z_0, z_1, z_2, z_3, z_4, z_5⟩ := hS; go_simp; try rfl))) sS ?_
                      simp only [Act.put, List.setIfInBounds_toArray, List.set_cons_zero, List.set_cons_succ]
                      refine anybut_take 45 172 rfl rfl (by kernel_rfl) (by kernel_rfl) (by kernel_rfl) (by kernel_rfl) (by decide) (fun _ _ _ h => h) (yields_of (by rfl) (fun w9 hS => (by obtain ⟨z_0, z_1, z_2, z_3, z_4, z_5⟩ := hS; go_simp; try rfl))) sS ?_
                      simp only [Act.put, List.setIfInBounds_toArray, List.set_cons_zero, List.set_cons_succ]
                      refine anybut_take 46 173 rfl rfl (by kernel_rfl) (by kernel_rfl) (by kernel_rfl) (by kernel_rfl) (by decide) (fun _ _ _ h => h) (yields_of (by rfl) (fun w9 hS => (by obtain ⟨z_0, z_1, z_2, z_3, z_4, z_5⟩ := hS; go_simp; try rfl))) sS ?_
                      simp only [Act.put, List.setIfInBounds_toArray, List.set_cons_zero, List.set_cons_succ]
                      refine anybut_take 47 174 rfl rfl (by kernel_rfl) (by kernel_rfl) (by kernel_rfl) (by kernel_rfl) (by decide) (fun _ _ _ h => h) (yields_of (by rfl) (fun w9 hS => (by obtain ⟨z_0, z_1, z_2, z_3, z_4, z_5⟩ := hS; go_simp; try rfl))) sS ?_
                      simp only [Act.put, List.setIfInBounds_toArray, List.set_cons_zero, List.set_cons_succ]
                      refine anybut_take 48 175 rfl rfl (by kernel_rfl) (by kernel_rfl) (by kernel_rfl) (by kernel_rfl) (by decide) (fun _ _ _ h => h) (yields_of (by rfl) (fun w9 hS => (by obtain ⟨z_0, z_1, z_2, z_3, z_4, z_5⟩ := hS; go_simp; try rfl))) sS ?_
                      simp only [Act.put, List.setIfInBounds_toArray, List.set_cons_zero, List.set_cons_succ]
                      refine anybut_take 49 176 rfl rfl (by kernel_rfl) (by kernel_rfl) (by kernel_rfl) (by kernel_rfl) (by decide) (fun _ _ _ h => h) (yields_of (by rfl) (fun w9 hS => (by obtain ⟨z_0, z_1, z_2, z_3, z_4, z_5⟩ := hS; go_simp; try rfl))) sS ?_
                      simp only [Act.put, List.setIfInBounds_toArray, List.set_cons_zero, List.set_cons_succ]
                      refine anybut_take 50 177 rfl rfl (by kernel_rfl) (by kernel_rfl) (by kernel_rfl) (by kernel_rfl) (by decide) (fun _ _ _ h => h) (yields_of (by rfl) (fun w9 hS => (by obtain ⟨z_0, z_1, z_2, z_3, z_4, z_5⟩ := hS; go_simp; try rfl))) sS ?_
                      simp only [Act.put, List.setIfInBounds_toArray, List.set_cons_zero, List.set_cons_succ]
                      refine anybut_take 51 178 rfl rfl (by kernel_rfl) (by kernel_rfl) (by kernel_rfl) (by kernel_rfl) (by decide) (fun _ _ _ h => h) (yields_of (by rfl) (fun w9 hS => (by obtain ⟨z_0, z_1, z_2, z_3, z_4, z_5⟩ := hS; go_simp; try rfl))) sS ?_
                      simp only [Act.put, List.setIfInBounds_toArray, List.set_cons_zero, List.set_cons_succ]
                      refine anybut_take 52 179 rfl rfl (by kernel_rfl) (by kernel_rfl) (by kernel_rfl) (by kernel_rfl) (by decide) (fun _ _ _ h => h) (yields_of (by rfl) (fun w9 hS => (by obtain ⟨z_0, z_1, z_2, z_3, z_4, z_5⟩ := hS; go_simp; try rfl))) sS ?_
                      simp only [Act.put, List.setIfInBounds_toArray, List.set_cons_zero, List.set_cons_succ]
                      refine anybut_take 53 180 rfl rfl (by kernel_rfl) (by kernel_rfl) (by kernel_rfl) (by kernel_rfl) (by decide) (fun _ _ _ h => h) (yields_of (by rfl) (fun w9 hS => (by obtain ⟨z_0, z_1, z_2, z_3, z_4, z_5⟩ := hS; go_simp; try rfl))) sS ?_
                      simp only [Act.put, List.setIfInBounds_toArray, List.set_cons_zero, List.set_cons_succ]
                      refine anybut_take 54 181 rfl rfl (by kernel_rfl) (by kernel_rfl) (by kernel_rfl) (by kernel_rfl) (by decide) (fun _ _ _ h => h) (yields_of (by rfl) (fun w9 hS => (by obtain ⟨z_0, z_1, z_2, z_3, z_4, z_5⟩ := hS; go_simp; try rfl))) sS ?_
                      simp only [Act.put, List.setIfInBounds_toArray, List.set_cons_zero, List.set_cons_succ]
                      refine anybut_take 55 182 rfl rfl (by kernel_rfl) (by kernel_rfl) (by kernel_rfl) (by kernel_rfl) (by decide) (fun _ _ _ h => h) (yields_of (by rfl) (fun w9 hS => (by obtain ⟨z_0, z_1, z_2, z_3, z_4, z_5⟩ := hS; go_simp; try rfl))) sS ?_
                      simp only [Act.put, List.setIfInBounds_toArray, List.set_cons_zero, List.set_cons_succ]
                      refine anybut_take 56 183 rfl rfl (by kernel_rfl) (by kernel_rfl) (by kernel_rfl) (by kernel_rfl) (by decide) (fun _ _ _ h => h) (yields_of (by rfl) (fun w9 hS => (by obtain ⟨z_0, z_1, z_2, z_3, z_4, z_5⟩ := hS; go_simp; try rfl))) sS ?_
                      simp only [Act.put, List.setIfInBounds_toArray, List.set_cons_zero, List.set_cons_succ]
                      refine anybut_take 57 184 rfl rfl (by kernel_rfl) (by kernel_rfl) (by kernel_rfl) (by kernel_rfl) (by decide) (fun _ _ _ h => h) (yields_of (by rfl) (fun w9 hS => (by obtain ⟨z_0, z_1, z_2, z_3, z_4, z_5⟩ := hS; go_simp; try rfl))) sS ?_
                      simp only [Act.put, List.setIfInBounds_toArray, List.set_cons_zero, List.set_cons_succ]
                      refine anybut_take 58 185 rfl rfl (by kernel_rfl) (by kernel_rfl) (by kernel_rfl) (by kernel_rfl) (by decide) (fun _ _ _ h => h) (yields_of (by rfl) (fun w9 hS => (by obtain ⟨z_0, z_1, z_2, z_3, z_4, z_5⟩ := hS; go_simp; try rfl))) sS ?_
                      simp only [Act.put, List.setIfInBounds_toArray, List.set_cons_zero, List.set_cons_succ]
                      refine AnyBut.one 59 rfl (by kernel_rfl) (by rfl) ?_
                      go_simp
                      refine AnyBut.done (by kernel_rfl) ?_
                      go_wp2_with fail
                      go_ret
                      exact ⟨rfl, HBU.out⟩
            | false =>
              have HNC := Lib.hid hcc
              clear hcc
              obtain ⟨n9, hn9⟩ : ∃ n, min np nq9 = n := ⟨_, rfl⟩
              have HEQ : Hid (∀ j, j < n9 → P[j]? = Q[j]?) := fun j hj => HJ.out j (by
                have h := HNC.out
                rw [Bool.and_eq_false_iff, decide_eq_false_iff_not, decide_eq_false_iff_not] at h
                omega)
              have HN9 : Hid (min np nq9 = n9) := hn9
              clear HNC HJ hn9
              go_upto_if 191 with (fail)
              go_cut [21] (fun v wx => v = .int .i64 n9 ∧ wx = wr)
              case first =>
                by_cases h : nq9 < np
                · have hi : (nq9 : Int) < (np : Int) := by omega
                  have hk : Hid (nq9 = n9) := by have := HN9.out; show _ = _; omega
                  go_wp2_with fail
                  go_meet
                  case rel => exact ⟨by rw [hk.out], rfl⟩
                · have hi : ¬ (nq9 : Int) < (np : Int) := by omega
                  have hk : Hid (np = n9) := by have := HN9.out; show _ = _; omega
                  go_wp2_with fail
                  go_meet
                  case rel => exact ⟨by rw [hk.out], rfl⟩
              case rest =>
              obtain ⟨rfl, hw2⟩ := hcut
              have hw3 := hw2.symm
              subst hw3
              clear hw2
              have t1 := HWC.out _ _ HKE.out.1; have t2 := HWC.out _ _ HKE.out.2.1; have t3 := HWC.out _ _ HKE.out.2.2.1; have t4 := HWC.out _ _ HKE.out.2.2.2
              have HBU : Hid (Below w.heap.size w wr.drew) := HWB.out.drew
              by_cases hnn : np = nq9
              · have hpq : ((np : Int) == (nq9 : Int)) = true := by rw [hnn]; simp
                have sS : wr.drew.cell? ⟨nT, 5, none⟩ = some (.slice A T.length c) ∧ wr.drew.cell? ⟨nP, 1, none⟩ = some (.int .i64 z1) := ⟨t4, t1⟩
                clear t1 t2 t3 t4 hnn
                clear HAU HBV HKE HDV HWC HW HNP HLF HNUM HTRA HNW HK3 HB0 HBL HWB HEQ HN9
                go_upto_region 25 with (fail)
                generalize Value.agg #[.int .u8 (d.form : Int), .int .u8 (d.len : Int), .int .u8 (d.speed : Int), .int .u16 (d.mute : Int), .int .u16 (d.wait : Int), .int .u8 (d.cancel : Int), .int .u8 (d.stay : Int), .int .u8 (d.join : Int), .slice Ad kd cd] = vd at *
                generalize Value.agg #[.int .u8 (x.fr : Int), .int .u8 (x.lo : Int), .slice At tn ct, .int .u16 (x.ah : Int), .int .u16 he, .int .u16 tk, .int .u16 (x.sp : Int), .slice Ar rl cr] = vs9 at *
                generalize Value.agg #[.slice A0 k0 c0, .slice A1 k1 c1, .slice A2 k2 c2, .slice (some ⟨bp, op, none⟩) k3 c3, .slice A4 k4 c4, .int .i64 t0, .int .i64 t1, .int .i64 t2, .int .i64 t3, .int .i64 t4] = vl9 at *
                generalize Value.agg (tcells 4 he (-1) dv e (.slice A T.length c)) = vt9 at *
                try simp only [List.append]
                refine AnyBut.region (fun w' => w'.cell? ⟨nT, 5, none⟩ = some (.slice A T.length c) ∧ w'.cell? ⟨nP, 1, none⟩ = some (.int .i64 z1)) 42 (by kernel_rfl) ?_
                change AnyBut _ _ _ _ _ _ _ _ _ wr.drew
                generalize wr.drew = wu at *
                refine anybut_take 0 194 rfl rfl (by kernel_rfl) (by kernel_rfl) (by kernel_rfl) (by kernel_rfl) (by decide) (fun _ _ _ h => h) (yields_of (by rfl) (fun w9 hS => (by obtain ⟨z_0, z_1⟩ := hS; go_simp; try rfl))) sS ?_
                simp only [Act.put, List.setIfInBounds_toArray, List.set_cons_zero, List.set_cons_succ]
                refine anybut_take 1 195 rfl rfl (by kernel_rfl) (by kernel_rfl) (by kernel_rfl) (by kernel_rfl) (by decide) (fun _ _ _ h => h) (yields_of (by rfl) (fun w9 hS => (by obtain ⟨z_0, z_1⟩ := hS; go_simp; try rfl))) sS ?_
                simp only [Act.put, List.setIfInBounds_toArray, List.set_cons_zero, List.set_cons_succ]
                refine anybut_take 2 196 rfl rfl (by kernel_rfl) (by kernel_rfl) (by kernel_rfl) (by kernel_rfl) (by decide) (fun _ _ _ h => h) (yields_of (by rfl) (fun w9 hS => (by obtain ⟨z_0, z_1⟩ := hS; go_simp; try rfl))) sS ?_
                simp only [Act.put, List.setIfInBounds_toArray, List.set_cons_zero, List.set_cons_succ]
                refine anybut_take 3 197 rfl rfl (by kernel_rfl) (by kernel_rfl) (by kernel_rfl) (by kernel_rfl) (by decide) (fun _ _ _ h => h) (yields_of (by rfl) (fun w9 hS => (by obtain ⟨z_0, z_1⟩ := hS; go_simp; try rfl))) sS ?_
                simp only [Act.put, List.setIfInBounds_toArray, List.set_cons_zero, List.set_cons_succ]
                refine anybut_take 4 198 rfl rfl (by kernel_rfl) (by kernel_rfl) (by kernel_rfl) (by kernel_rfl) (by decide) (fun _ _ _ h => h) (yields_of (by rfl) (fun w9 hS => (by obtain ⟨z_0, z_1⟩ := hS; go_simp; try rfl))) sS ?_
                simp only [Act.put, List.setIfInBounds_toArray, List.set_cons_zero, List.set_cons_succ]
                refine anybut_take 5 199 rfl rfl (by kernel_rfl) (by kernel_rfl) (by kernel_rfl) (by kernel_rfl) (by decide) (fun _ _ _ h => h) (yields_of (by rfl) (fun w9 hS => (by obtain ⟨z_0, z_1⟩ := hS; go_simp; try rfl))) sS ?_
                simp only [Act.put, List.setIfInBounds_toArray, List.set_cons_zero, List.set_cons_succ]
                refine anybut_take 6 200 rfl rfl (by kernel_rfl) (by kernel_rfl) (by kernel_rfl) (by kernel_rfl) (by decide) (fun _ _ _ h => h) (Or.inr ⟨by rfl, rfl⟩) sS ?_
                simp only [Act.put, List.setIfInBounds_toArray, List.set_cons_zero, List.set_cons_succ]
                refine anybut_take 7 201 rfl rfl (by kernel_rfl) (by kernel_rfl) (by kernel_rfl) (by kernel_rfl) (by decide) (fun _ _ _ h => h) (Or.inr ⟨by rfl, rfl⟩) sS ?_
                simp only [Act.put, List.setIfInBounds_toArray, List.set_cons_zero, List.set_cons_succ]
                refine anybut_take 8 202 rfl rfl (by kernel_rfl) (by kernel_rfl) (by kernel_rfl) (by kernel_rfl) (by decide) (fun _ _ _ h => h) (Or.inr ⟨by rfl, rfl⟩) sS ?_
                simp only [Act.put, List.setIfInBounds_toArray, List.set_cons_zero, List.set_cons_succ]
                refine anybut_take 9 203 rfl rfl (by kernel_rfl) (by kernel_rfl) (by kernel_rfl) (by kernel_rfl) (by decide) (fun _ _ _ h => h) (Or.inr ⟨by rfl, rfl⟩) sS ?_
                simp only [Act.put, List.setIfInBounds_toArray, List.set_cons_zero, List.set_cons_succ]
                refine anybut_take 10 204 rfl rfl (by kernel_rfl) (by kernel_rfl) (by kernel_rfl) (by kernel_rfl) (by decide) (fun _ _ _ h => h) (Or.inr ⟨by rfl, rfl⟩) sS ?_
                simp only [Act.put, List.setIfInBounds_toArray, List.set_cons_zero, List.set_cons_succ]
                refine anybut_take 11 205 rfl rfl (by kernel_rfl) (by kernel_rfl) (by kernel_rfl) (by kernel_rfl) (by decide) (fun _ _ _ h => h) (Or.inr ⟨by rfl, rfl⟩) sS ?_
                simp only [Act.put, List.setIfInBounds_toArray, List.set_cons_zero, List.set_cons_succ]
                refine anybut_take 12 206 rfl rfl (by kernel_rfl) (by kernel_rfl) (by kernel_rfl) (by kernel_rfl) (by decide) (fun _ _ _ h => h) (Or.inr ⟨by rfl, rfl⟩) sS ?_
                simp only [Act.put, List.setIfInBounds_toArray, List.set_cons_zero, List.set_cons_succ]
                refine anybut_take 13 207 rfl rfl (by kernel_rfl) (by kernel_rfl) (by kernel_rfl) (by kernel_rfl) (by decide) (fun _ _ _ h => h) (Or.inr ⟨by rfl, rfl⟩) sS ?_
                simp only [Act.put, List.setIfInBounds_toArray, List.set_cons_zero, List.set_cons_succ]
                refine anybut_take 14 208 rfl rfl (by kernel_rfl) (by kernel_rfl) (by kernel_rfl) (by kernel_rfl) (by decide) (fun _ _ _ h => h) (Or.inr ⟨by rfl, rfl⟩) sS ?_
                simp only [Act.put, List.setIfInBounds_toArray, List.set_cons_zero, List.set_cons_succ]
                refine anybut_take 15 209 rfl rfl (by kernel_rfl) (by kernel_rfl) (by kernel_rfl) (by kernel_rfl) (by decide) (fun _ _ _ h => h) (Or.inr ⟨by rfl, rfl⟩) sS ?_
                simp only [Act.put, List.setIfInBounds_toArray, List.set_cons_zero, List.set_cons_succ]
                refine anybut_take 16 210 rfl rfl (by kernel_rfl) (by kernel_rfl) (by kernel_rfl) (by kernel_rfl) (by decide) (fun _ _ _ h => h) (Or.inr ⟨by rfl, rfl⟩) sS ?_
                simp only [Act.put, List.setIfInBounds_toArray, List.set_cons_zero, List.set_cons_succ]
                refine anybut_take 17 211 rfl rfl (by kernel_rfl) (by kernel_rfl) (by kernel_rfl) (by kernel_rfl) (by decide) (fun _ _ _ h => h) (Or.inr ⟨by rfl, rfl⟩) sS ?_
                simp only [Act.put, List.setIfInBounds_toArray, List.set_cons_zero, List.set_cons_succ]
                refine anybut_take 18 212 rfl rfl (by kernel_rfl) (by kernel_rfl) (by kernel_rfl) (by kernel_rfl) (by decide) (fun _ _ _ h => h) (Or.inr ⟨by rfl, rfl⟩) sS ?_
                simp only [Act.put, List.setIfInBounds_toArray, List.set_cons_zero, List.set_cons_succ]
                refine anybut_take 19 213 rfl rfl (by kernel_rfl) (by kernel_rfl) (by kernel_rfl) (by kernel_rfl) (by decide) (fun _ _ _ h => h) (Or.inr ⟨by rfl, rfl⟩) sS ?_
                simp only [Act.put, List.setIfInBounds_toArray, List.set_cons_zero, List.set_cons_succ]
                refine anybut_take 20 214 rfl rfl (by kernel_rfl) (by kernel_rfl) (by kernel_rfl) (by kernel_rfl) (by decide) (fun _ _ _ h => h) (Or.inr ⟨by rfl, rfl⟩) sS ?_
                simp only [Act.put, List.setIfInBounds_toArray, List.set_cons_zero, List.set_cons_succ]
                refine anybut_take 21 215 rfl rfl (by kernel_rfl) (by kernel_rfl) (by kernel_rfl) (by kernel_rfl) (by decide) (fun _ _ _ h => h) (Or.inr ⟨by rfl, rfl⟩) sS ?_
                simp only [Act.put, List.setIfInBounds_toArray, List.set_cons_zero, List.set_cons_succ]
                refine anybut_take 22 216 rfl rfl (by kernel_rfl) (by kernel_rfl) (by kernel_rfl) (by kernel_rfl) (by decide) (fun _ _ _ h => h) (Or.inr ⟨by rfl, rfl⟩) sS ?_
                simp only [Act.put, List.setIfInBounds_toArray, List.set_cons_zero, List.set_cons_succ]
                refine anybut_take 23 217 rfl rfl (by kernel_rfl) (by kernel_rfl) (by kernel_rfl) (by kernel_rfl) (by decide) (fun _ _ _ h => h) (Or.inr ⟨by rfl, rfl⟩) sS ?_
                simp only [Act.put, List.setIfInBounds_toArray, List.set_cons_zero, List.set_cons_succ]
                refine anybut_take 24 218 rfl rfl (by kernel_rfl) (by kernel_rfl) (by kernel_rfl) (by kernel_rfl) (by decide) (fun _ _ _ h => h) (Or.inr ⟨by rfl, rfl⟩) sS ?_
                simp only [Act.put, List.setIfInBounds_toArray, List.set_cons_zero, List.set_cons_succ]
                refine anybut_take 25 219 rfl rfl (by kernel_rfl) (by kernel_rfl) (by kernel_rfl) (by kernel_rfl) (by decide) (fun _ _ _ h => h) (Or.inr ⟨by rfl, rfl⟩) sS ?_
                simp only [Act.put, List.setIfInBounds_toArray, List.set_cons_zero, List.set_cons_succ]
                refine anybut_take 26 220 rfl rfl (by kernel_rfl) (by kernel_rfl) (by kernel_rfl) (by kernel_rfl) (by decide) (fun _ _ _ h => h) (Or.inr ⟨by rfl, rfl⟩) sS ?_
                simp only [Act.put, List.setIfInBounds_toArray, List.set_cons_zero, List.set_cons_succ]
                refine anybut_take 27 221 rfl rfl (by kernel_rfl) (by kernel_rfl) (by kernel_rfl) (by kernel_rfl) (by decide) (fun _ _ _ h => h) (Or.inr ⟨by rfl, rfl⟩) sS ?_
                simp only [Act.put, List.setIfInBounds_toArray, List.set_cons_zero, List.set_cons_succ]
                refine anybut_take 28 222 rfl rfl (by kernel_rfl) (by kernel_rfl) (by kernel_rfl) (by kernel_rfl) (by decide) (fun _ _ _ h => h) (Or.inr ⟨by rfl, rfl⟩) sS ?_
                simp only [Act.put, List.setIfInBounds_toArray, List.set_cons_zero, List.set_cons_succ]
                refine anybut_take 29 223 rfl rfl (by kernel_rfl) (by kernel_rfl) (by kernel_rfl) (by kernel_rfl) (by decide) (fun _ _ _ h => h) (Or.inr ⟨by rfl, rfl⟩) sS ?_
                simp only [Act.put, List.setIfInBounds_toArray, List.set_cons_zero, List.set_cons_succ]
                refine anybut_take 30 224 rfl rfl (by kernel_rfl) (by kernel_rfl) (by kernel_rfl) (by kernel_rfl) (by decide) (fun _ _ _ h => h) (Or.inr ⟨by rfl, rfl⟩) sS ?_
                simp only [Act.put, List.setIfInBounds_toArray, List.set_cons_zero, List.set_cons_succ]
                refine anybut_take 31 225 rfl rfl (by kernel_rfl) (by kernel_rfl) (by kernel_rfl) (by kernel_rfl) (by decide) (fun _ _ _ h => h) (Or.inr ⟨by rfl, rfl⟩) sS ?_
                simp only [Act.put, List.setIfInBounds_toArray, List.set_cons_zero, List.set_cons_succ]
                refine anybut_take 32 226 rfl rfl (by kernel_rfl) (by kernel_rfl) (by kernel_rfl) (by kernel_rfl) (by decide) (fun _ _ _ h => h) (Or.inr ⟨by rfl, rfl⟩) sS ?_
                simp only [Act.put, List.setIfInBounds_toArray, List.set_cons_zero, List.set_cons_succ]
                refine anybut_take 33 227 rfl rfl (by kernel_rfl) (by kernel_rfl) (by kernel_rfl) (by kernel_rfl) (by decide) (fun _ _ _ h => h) (Or.inr ⟨by rfl, rfl⟩) sS ?_
                simp only [Act.put, List.setIfInBounds_toArray, List.set_cons_zero, List.set_cons_succ]
                refine anybut_take 34 228 rfl rfl (by kernel_rfl) (by kernel_rfl) (by kernel_rfl) (by kernel_rfl) (by decide) (fun _ _ _ h => h) (Or.inr ⟨by rfl, rfl⟩) sS ?_
                simp only [Act.put, List.setIfInBounds_toArray, List.set_cons_zero, List.set_cons_succ]
                refine anybut_take 35 229 rfl rfl (by kernel_rfl) (by kernel_rfl) (by kernel_rfl) (by kernel_rfl) (by decide) (fun _ _ _ h => h) (Or.inr ⟨by rfl, rfl⟩) sS ?_
                simp only [Act.put, List.setIfInBounds_toArray, List.set_cons_zero, List.set_cons_succ]
                refine anybut_take 36 230 rfl rfl (by kernel_rfl) (by kernel_rfl) (by kernel_rfl) (by kernel_rfl) (by decide) (fun _ _ _ h => h) (Or.inr ⟨by rfl, rfl⟩) sS ?_
                simp only [Act.put, List.setIfInBounds_toArray, List.set_cons_zero, List.set_cons_succ]
                refine anybut_take 37 231 rfl rfl (by kernel_rfl) (by kernel_rfl) (by kernel_rfl) (by kernel_rfl) (by decide) (fun _ _ _ h => h) (Or.inr ⟨by rfl, rfl⟩) sS ?_
                simp only [Act.put, List.setIfInBounds_toArray, List.set_cons_zero, List.set_cons_succ]
                refine anybut_take 38 232 rfl rfl (by kernel_rfl) (by kernel_rfl) (by kernel_rfl) (by kernel_rfl) (by decide) (fun _ _ _ h => h) (Or.inr ⟨by rfl, rfl⟩) sS ?_
                simp only [Act.put, List.setIfInBounds_toArray, List.set_cons_zero, List.set_cons_succ]
                refine anybut_take 39 233 rfl rfl (by kernel_rfl) (by kernel_rfl) (by kernel_rfl) (by kernel_rfl) (by decide) (fun _ _ _ h => h) (Or.inr ⟨by rfl, rfl⟩) sS ?_
                simp only [Act.put, List.setIfInBounds_toArray, List.set_cons_zero, List.set_cons_succ]
                refine anybut_take 40 234 rfl rfl (by kernel_rfl) (by kernel_rfl) (by kernel_rfl) (by kernel_rfl) (by decide) (fun _ _ _ h => h) (Or.inr ⟨by rfl, rfl⟩) sS ?_
                simp only [Act.put, List.setIfInBounds_toArray, List.set_cons_zero, List.set_cons_succ]
                refine anybut_take 41 235 rfl rfl (by kernel_rfl) (by kernel_rfl) (by kernel_rfl) (by kernel_rfl) (by decide) (fun _ _ _ h => h) (yields_of (by rfl) (fun w9 hS => (by obtain ⟨z_0, z_1⟩ := hS; go_simp; try rfl))) sS ?_
                simp only [Act.put, List.setIfInBounds_toArray, List.set_cons_zero, List.set_cons_succ]
                refine AnyBut.one 42 rfl (by kernel_rfl) (by rfl) ?_
                go_simp
                refine AnyBut.done (by kernel_rfl) ?_
                go_wp2_with fail
                go_ret
                exact ⟨rfl, HBU.out⟩
              · have hpq : ((np : Int) == (nq9 : Int)) = false := by rw [beq_eq_false_iff_ne]; omega
                obtain ⟨hge0, hpos, u, hu, hpt⟩ := dv_end HDV.out (n := n9) (by rw [HNP.out.1, HNP.out.2]; exact HN9.out.symm) (by rw [HNP.out.1, HNP.out.2]; exact hnn) HEQ.out
                obtain ⟨m9, hm9⟩ : ∃ m, n9 - 1 = m := ⟨_, rfl⟩
                rw [hm9] at hu
                have hm1 : m9 < np := by have := HN9.out; omega
                obtain ⟨hca, hpa⟩ := HAU.out m9 hm1
                rw [hpa] at hu
                injection hu with hu
                rw [hu] at hca
                have q0 := HWC.out _ _ hca
                have hge : (T.length : Int) ≤ (n9 : Int) := by omega
                have hw1 : IntKind.i64.wrap ((n9 : Int) - 1) = (m9 : Int) := by rw [show (n9 : Int) - 1 = (m9 : Int) by omega]; exact IntWalk.i64_in _ (by omega)
                have hm2 : (m9 : Int) < (np : Int) := by omega
                have sS : wr.drew.cell? ⟨ba, oa + m9, none⟩ = some (.int .i64 u) ∧ wr.drew.cell? ⟨nP, 1, none⟩ = some (.int .i64 z1) ∧ wr.drew.cell? ⟨nP, 2, none⟩ = some (.int .i64 z2) ∧ wr.drew.cell? ⟨nP, 3, none⟩ = some (.int .i64 z3) ∧ wr.drew.cell? ⟨nT, 5, none⟩ = some (.slice A T.length c) := ⟨q0, t1, t2, t3, t4⟩
                clear t1 t2 t3 t4 q0 hca hpa hu hm9 hpos hge0 hnn
                clear HAU HBV HKE HDV HWC HW HNP HLF HNUM HTRA HNW HK3 HB0 HBL HWB HEQ HN9
                go_upto_region 25 with (fail)
                generalize Value.agg #[.int .u8 (d.form : Int), .int .u8 (d.len : Int), .int .u8 (d.speed : Int), .int .u16 (d.mute : Int), .int .u16 (d.wait : Int), .int .u8 (d.cancel : Int), .int .u8 (d.stay : Int), .int .u8 (d.join : Int), .slice Ad kd cd] = vd at *
                generalize Value.agg #[.int .u8 (x.fr : Int), .int .u8 (x.lo : Int), .slice At tn ct, .int .u16 (x.ah : Int), .int .u16 he, .int .u16 tk, .int .u16 (x.sp : Int), .slice Ar rl cr] = vs9 at *
                generalize Value.agg #[.slice A0 k0 c0, .slice A1 k1 c1, .slice A2 k2 c2, .slice (some ⟨bp, op, none⟩) k3 c3, .slice A4 k4 c4, .int .i64 t0, .int .i64 t1, .int .i64 t2, .int .i64 t3, .int .i64 t4] = vl9 at *
                generalize Value.agg (tcells 4 he (-1) dv e (.slice A T.length c)) = vt9 at *
                try simp only [List.append]
                refine AnyBut.region (fun w' => w'.cell? ⟨ba, oa + m9, none⟩ = some (.int .i64 u) ∧ w'.cell? ⟨nP, 1, none⟩ = some (.int .i64 z1) ∧ w'.cell? ⟨nP, 2, none⟩ = some (.int .i64 z2) ∧ w'.cell? ⟨nP, 3, none⟩ = some (.int .i64 z3) ∧ w'.cell? ⟨nT, 5, none⟩ = some (.slice A T.length c)) 42 (by kernel_rfl) ?_
                change AnyBut _ _ _ _ _ _ _ _ _ wr.drew
                generalize wr.drew = wu at *
                refine anybut_take 0 194 rfl rfl (by kernel_rfl) (by kernel_rfl) (by kernel_rfl) (by kernel_rfl) (by decide) (fun _ _ _ h => h) (yields_of (by rfl) (fun w9 hS => (by obtain ⟨z_0, z_1, z_2, z_3, z_4⟩ := hS; go_simp; try rfl))) sS ?_
                simp only [Act.put, List.setIfInBounds_toArray, List.set_cons_zero, List.set_cons_succ]
                refine anybut_take 1 195 rfl rfl (by kernel_rfl) (by kernel_rfl) (by kernel_rfl) (by kernel_rfl) (by decide) (fun _ _ _ h => h) (yields_of (by rfl) (fun w9 hS => (by obtain ⟨z_0, z_1, z_2, z_3, z_4⟩ := hS; go_simp; try rfl))) sS ?_
                simp only [Act.put, List.setIfInBounds_toArray, List.set_cons_zero, List.set_cons_succ]
                refine anybut_take 2 196 rfl rfl (by kernel_rfl) (by kernel_rfl) (by kernel_rfl) (by kernel_rfl) (by decide) (fun _ _ _ h => h) (yields_of (by rfl) (fun w9 hS => (by obtain ⟨z_0, z_1, z_2, z_3, z_4⟩ := hS; go_simp; try rfl))) sS ?_
                simp only [Act.put, List.setIfInBounds_toArray, List.set_cons_zero, List.set_cons_succ]
                refine anybut_take 3 197 rfl rfl (by kernel_rfl) (by kernel_rfl) (by kernel_rfl) (by kernel_rfl) (by decide) (fun _ _ _ h => h) (yields_of (by rfl) (fun w9 hS => (by obtain ⟨z_0, z_1, z_2, z_3, z_4⟩ := hS; go_simp; try rfl))) sS ?_
                simp only [Act.put, List.setIfInBounds_toArray, List.set_cons_zero, List.set_cons_succ]
                refine anybut_take 4 198 rfl rfl (by kernel_rfl) (by kernel_rfl) (by kernel_rfl) (by kernel_rfl) (by decide) (fun _ _ _ h => h) (yields_of (by rfl) (fun w9 hS => (by obtain ⟨z_0, z_1, z_2, z_3, z_4⟩ := hS; go_simp; try rfl))) sS ?_
                simp only [Act.put, List.setIfInBounds_toArray, List.set_cons_zero, List.set_cons_succ]
                refine anybut_take 5 199 rfl rfl (by kernel_rfl) (by kernel_rfl) (by kernel_rfl) (by kernel_rfl) (by decide) (fun _ _ _ h => h) (yields_of (by rfl) (fun w9 hS => (by obtain ⟨z_0, z_1, z_2, z_3, z_4⟩ := hS; go_simp; try rfl))) sS ?_
                simp only [Act.put, List.setIfInBounds_toArray, List.set_cons_zero, List.set_cons_succ]
                refine anybut_take 6 200 rfl rfl (by kernel_rfl) (by kernel_rfl) (by kernel_rfl) (by kernel_rfl) (by decide) (fun _ _ _ h => h) (yields_of (by rfl) (fun w9 hS => (by obtain ⟨z_0, z_1, z_2, z_3, z_4⟩ := hS; go_simp; try rfl))) sS ?_
                simp only [Act.put, List.setIfInBounds_toArray, List.set_cons_zero, List.set_cons_succ]
                refine anybut_take 7 201 rfl rfl (by kernel_rfl) (by kernel_rfl) (by kernel_rfl) (by kernel_rfl) (by decide) (fun _ _ _ h => h) (yields_of (by rfl) (fun w9 hS => (by obtain ⟨z_0, z_1, z_2, z_3, z_4⟩ := hS; go_simp; try rfl))) sS ?_
                simp only [Act.put, List.setIfInBounds_toArray, List.set_cons_zero, List.set_cons_succ]
                refine anybut_take 8 202 rfl rfl (by kernel_rfl) (by kernel_rfl) (by kernel_rfl) (by kernel_rfl) (by decide) (fun _ _ _ h => h) (yields_of (by rfl) (fun w9 hS => (by obtain ⟨z_0, z_1, z_2, z_3, z_4⟩ := hS; go_simp; try rfl))) sS ?_
                simp only [Act.put, List.setIfInBounds_toArray, List.set_cons_zero, List.set_cons_succ]
                refine anybut_take 9 203 rfl rfl (by kernel_rfl) (by kernel_rfl) (by kernel_rfl) (by kernel_rfl) (by decide) (fun _ _ _ h => h) (yields_of (by rfl) (fun w9 hS => (by obtain ⟨z_0, z_1, z_2, z_3, z_4⟩ := hS; go_simp; try rfl))) sS ?_
                simp only [Act.put, List.setIfInBounds_toArray, List.set_cons_zero, List.set_cons_succ]
                refine anybut_take 10 204 rfl rfl (by kernel_rfl) (by kernel_rfl) (by kernel_rfl) (by kernel_rfl) (by decide) (fun _ _ _ h => h) (yields_of (by rfl) (fun w9 hS => (by obtain ⟨z_0, z_1, z_2, z_3, z_4⟩ := hS; go_simp; try rfl))) sS ?_
                simp only [Act.put, List.setIfInBounds_toArray, List.set_cons_zero, List.set_cons_succ]
                refine anybut_take 11 205 rfl rfl (by kernel_rfl) (by kernel_rfl) (by kernel_rfl) (by kernel_rfl) (by decide) (fun _ _ _ h => h) (yields_of (by rfl) (fun w9 hS => (by obtain ⟨z_0, z_1, z_2, z_3, z_4⟩ := hS; go_simp; try rfl))) sS ?_
                simp only [Act.put, List.setIfInBounds_toArray, List.set_cons_zero, List.set_cons_succ]
                refine anybut_take 12 206 rfl rfl (by kernel_rfl) (by kernel_rfl) (by kernel_rfl) (by kernel_rfl) (by decide) (fun _ _ _ h => h) (yields_of (by rfl) (fun w9 hS => (by obtain ⟨z_0, z_1, z_2, z_3, z_4⟩ := hS; go_simp; try rfl))) sS ?_
                simp only [Act.put, List.setIfInBounds_toArray, List.set_cons_zero, List.set_cons_succ]
                refine anybut_take 13 207 rfl rfl (by kernel_rfl) (by kernel_rfl) (by kernel_rfl) (by kernel_rfl) (by decide) (fun _ _ _ h => h) (yields_of (by rfl) (fun w9 hS => (by obtain ⟨z_0, z_1, z_2, z_3, z_4⟩ := hS; go_simp; try rfl))) sS ?_
                simp only [Act.put, List.setIfInBounds_toArray, List.set_cons_zero, List.set_cons_succ]
                refine anybut_take 14 208 rfl rfl (by kernel_rfl) (by kernel_rfl) (by kernel_rfl) (by kernel_rfl) (by decide) (fun _ _ _ h => h) (yields_of (by rfl) (fun w9 hS => (by obtain ⟨z_0, z_1, z_2, z_3, z_4⟩ := hS; go_simp; try rfl))) sS ?_
                simp only [Act.put, List.setIfInBounds_toArray, List.set_cons_zero, List.set_cons_succ]
                refine anybut_take 15 209 rfl rfl (by kernel_rfl) (by kernel_rfl) (by kernel_rfl) (by kernel_rfl) (by decide) (fun _ _ _ h => h) (yields_of (by rfl) (fun w9 hS => (by obtain ⟨z_0, z_1, z_2, z_3, z_4⟩ := hS; go_simp; try rfl))) sS ?_
                simp only [Act.put, List.setIfInBounds_toArray, List.set_cons_zero, List.set_cons_succ]
                refine anybut_take 16 210 rfl rfl (by kernel_rfl) (by kernel_rfl) (by kernel_rfl) (by kernel_rfl) (by decide) (fun _ _ _ h => h) (yields_of (by rfl) (fun w9 hS => (by obtain ⟨z_0, z_1, z_2, z_3, z_4⟩ := hS; go_simp; try rfl))) sS ?_
                simp only [Act.put, List.setIfInBounds_toArray, List.set_cons_zero, List.set_cons_succ]
                refine anybut_take 17 211 rfl rfl (by kernel_rfl) (by kernel_rfl) (by kernel_rfl) (by kernel_rfl) (by decide) (fun _ _ _ h => h) (yields_of (by rfl) (fun w9 hS => (by obtain ⟨z_0, z_1, z_2, z_3, z_4⟩ := hS; go_simp; try rfl))) sS ?_
                simp only [Act.put, List.setIfInBounds_toArray, List.set_cons_zero, List.set_cons_succ]
                refine anybut_take 18 212 rfl rfl (by kernel_rfl) (by kernel_rfl) (by kernel_rfl) (by kernel_rfl) (by decide) (fun _ _ _ h => h) (yields_of (by rfl) (fun w9 hS => (by obtain ⟨z_0, z_1, z_2, z_3, z_4⟩ := hS; go_simp; try rfl))) sS ?_
                simp only [Act.put, List.setIfInBounds_toArray, List.set_cons_zero, List.set_cons_succ]
                rcases three_pt hpt with au1 | ⟨au1, au2⟩ | ⟨au1, au2, au3⟩
                · as_aux_lemma =>
                    refine anybut_take 19 213 rfl rfl (by kernel_rfl) (by kernel_rfl) (by kernel_rfl) (by kernel_rfl) (by decide) (fun _ _ _ h => h) (yields_of (by rfl) (fun w9 hS => (by obtain ⟨z_0, z_1, z_2, z_3, z_4⟩ := hS; go_simp; try rfl))) sS ?_
                    simp only [Act.put, List.setIfInBounds_toArray, List.set_cons_zero, List.set_cons_succ]
                    refine anybut_take 20 214 rfl rfl (by kernel_rfl) (by kernel_rfl) (by kernel_rfl) (by kernel_rfl) (by decide) (fun _ _ _ h => h) (yields_of (by rfl) (fun w9 hS => (by obtain ⟨z_0, z_1, z_2, z_3, z_4⟩ := hS; go_simp; try rfl))) sS ?_
                    simp only [Act.put, List.setIfInBounds_toArray, List.set_cons_zero, List.set_cons_succ]
                    refine anybut_take 21 215 rfl rfl (by kernel_rfl) (by kernel_rfl) (by kernel_rfl) (by kernel_rfl) (by decide) (fun _ _ _ h => h) (Or.inr ⟨by rfl, rfl⟩) sS ?_
                    simp only [Act.put, List.setIfInBounds_toArray, List.set_cons_zero, List.set_cons_succ]
                    refine anybut_take 22 216 rfl rfl (by kernel_rfl) (by kernel_rfl) (by kernel_rfl) (by kernel_rfl) (by decide) (fun _ _ _ h => h) (Or.inr ⟨by rfl, rfl⟩) sS ?_
                    simp only [Act.put, List.setIfInBounds_toArray, List.set_cons_zero, List.set_cons_succ]
                    refine anybut_take 23 217 rfl rfl (by kernel_rfl) (by kernel_rfl) (by kernel_rfl) (by kernel_rfl) (by decide) (fun _ _ _ h => h) (Or.inr ⟨by rfl, rfl⟩) sS ?_
                    simp only [Act.put, List.setIfInBounds_toArray, List.set_cons_zero, List.set_cons_succ]
                    refine anybut_take 24 218 rfl rfl (by kernel_rfl) (by kernel_rfl) (by kernel_rfl) (by kernel_rfl) (by decide) (fun _ _ _ h => h) (Or.inr ⟨by rfl, rfl⟩) sS ?_
                    simp only [Act.put, List.setIfInBounds_toArray, List.set_cons_zero, List.set_cons_succ]
                    refine anybut_take 25 219 rfl rfl (by kernel_rfl) (by kernel_rfl) (by kernel_rfl) (by kernel_rfl) (by decide) (fun _ _ _ h => h) (Or.inr ⟨by rfl, rfl⟩) sS ?_
                    simp only [Act.put, List.setIfInBounds_toArray, List.set_cons_zero, List.set_cons_succ]
                    refine anybut_take 26 220 rfl rfl (by kernel_rfl) (by kernel_rfl) (by kernel_rfl) (by kernel_rfl) (by decide) (fun _ _ _ h => h) (Or.inr ⟨by rfl, rfl⟩) sS ?_
                    simp only [Act.put, List.setIfInBounds_toArray, List.set_cons_zero, List.set_cons_succ]
                    refine anybut_take 27 221 rfl rfl (by kernel_rfl) (by kernel_rfl) (by kernel_rfl) (by kernel_rfl) (by decide) (fun _ _ _ h => h) (Or.inr ⟨by rfl, rfl⟩) sS ?_
                    simp only [Act.put, List.setIfInBounds_toArray, List.set_cons_zero, List.set_cons_succ]
                    refine anybut_take 28 222 rfl rfl (by kernel_rfl) (by kernel_rfl) (by kernel_rfl) (by kernel_rfl) (by decide) (fun _ _ _ h => h) (Or.inr ⟨by rfl, rfl⟩) sS ?_
                    simp only [Act.put, List.setIfInBounds_toArray, List.set_cons_zero, List.set_cons_succ]
                    refine anybut_take 29 223 rfl rfl (by kernel_rfl) (by kernel_rfl) (by kernel_rfl) (by kernel_rfl) (by decide) (fun _ _ _ h => h) (yields_of (by rfl) (fun w9 hS => (by obtain ⟨z_0, z_1, z_2, z_3, z_4⟩ := hS; go_simp; try rfl))) sS ?_
                    simp only [Act.put, List.setIfInBounds_toArray, List.set_cons_zero, List.set_cons_succ]
                    refine anybut_take 30 224 rfl rfl (by kernel_rfl) (by kernel_rfl) (by kernel_rfl) (by kernel_rfl) (by decide) (fun _ _ _ h => h) (yields_of (by rfl) (fun w9 hS => (by obtain ⟨z_0, z_1, z_2, z_3, z_4⟩ := hS; go_simp; try rfl))) sS ?_
                    simp only [Act.put, List.setIfInBounds_toArray, List.set_cons_zero, List.set_cons_succ]
                    refine anybut_take 31 225 rfl rfl (by kernel_rfl) (by kernel_rfl) (by kernel_rfl) (by kernel_rfl) (by decide) (fun _ _ _ h => h) (Or.inr ⟨by rfl, rfl⟩) sS ?_
                    simp only [Act.put, List.setIfInBounds_toArray, List.set_cons_zero, List.set_cons_succ]
                    refine anybut_take 32 226 rfl rfl (by kernel_rfl) (by kernel_rfl) (by kernel_rfl) (by kernel_rfl) (by decide) (fun _ _ _ h => h) (Or.inr ⟨by rfl, rfl⟩) sS ?_
                    simp only [Act.put, List.setIfInBounds_toArray, List.set_cons_zero, List.set_cons_succ]
                    refine anybut_take 33 227 rfl rfl (by kernel_rfl) (by kernel_rfl) (by kernel_rfl) (by kernel_rfl) (by decide) (fun _ _ _ h => h) (Or.inr ⟨by rfl, rfl⟩) sS ?_
                    simp only [Act.put, List.setIfInBounds_toArray, List.set_cons_zero, List.set_cons_succ]
                    refine anybut_take 34 228 rfl rfl (by kernel_rfl) (by kernel_rfl) (by kernel_rfl) (by kernel_rfl) (by decide) (fun _ _ _ h => h) (Or.inr ⟨by rfl, rfl⟩) sS ?_
                    simp only [Act.put, List.setIfInBounds_toArray, List.set_cons_zero, List.set_cons_succ]
                    refine anybut_take 35 229 rfl rfl (by kernel_rfl) (by kernel_rfl) (by kernel_rfl) (by kernel_rfl) (by decide) (fun _ _ _ h => h) (Or.inr ⟨by rfl, rfl⟩) sS ?_
                    simp only [Act.put, List.setIfInBounds_toArray, List.set_cons_zero, List.set_cons_succ]
                    refine anybut_take 36 230 rfl rfl (by kernel_rfl) (by kernel_rfl) (by kernel_rfl) (by kernel_rfl) (by decide) (fun _ _ _ h => h) (Or.inr ⟨by rfl, rfl⟩) sS ?_
                    simp only [Act.put, List.setIfInBounds_toArray, List.set_cons_zero, List.set_cons_succ]
                    refine anybut_take 37 231 rfl rfl (by kernel_rfl) (by kernel_rfl) (by kernel_rfl) (by kernel_rfl) (by decide) (fun _ _ _ h => h) (Or.inr ⟨by rfl, rfl⟩) sS ?_
                    simp only [Act.put, List.setIfInBounds_toArray, List.set_cons_zero, List.set_cons_succ]
                    refine anybut_take 38 232 rfl rfl (by kernel_rfl) (by kernel_rfl) (by kernel_rfl) (by kernel_rfl) (by decide) (fun _ _ _ h => h) (Or.inr ⟨by rfl, rfl⟩) sS ?_
                    simp only [Act.put, List.setIfInBounds_toArray, List.set_cons_zero, List.set_cons_succ]
                    refine anybut_take 39 233 rfl rfl (by kernel_rfl) (by kernel_rfl) (by kernel_rfl) (by kernel_rfl) (by decide) (fun _ _ _ h => h) (yields_of (by rfl) (fun w9 hS => (by obtain ⟨z_0, z_1, z_2, z_3, z_4⟩ := hS; go_simp; try rfl))) sS ?_
                    simp only [Act.put, List.setIfInBounds_toArray, List.set_cons_zero, List.set_cons_succ]
                    refine anybut_take 40 234 rfl rfl (by kernel_rfl) (by kernel_rfl) (by kernel_rfl) (by kernel_rfl) (by decide) (fun _ _ _ h => h) (yields_of (by rfl) (fun w9 hS => (by obtain ⟨z_0, z_1, z_2, z_3, z_4⟩ := hS; go_simp; try rfl))) sS ?_
                    simp only [Act.put, List.setIfInBounds_toArray, List.set_cons_zero, List.set_cons_succ]
                    refine anybut_take 41 235 rfl rfl (by kernel_rfl) (by kernel_rfl) (by kernel_rfl) (by kernel_rfl) (by decide) (fun _ _ _ h => h) (yields_of (by rfl) (fun w9 hS => (by obtain ⟨z_0, z_1, z_2, z_3, z_4⟩ := hS; go_simp; try rfl))) sS ?_
                    simp only [Act.put, List.setIfInBounds_toArray, List.set_cons_zero, List.set_cons_succ]
                    refine AnyBut.one 42 rfl (by kernel_rfl) (by rfl) ?_
                    go_simp
                    refine AnyBut.done (by kernel_rfl) ?_
                    go_wp2_with fail
                    go_ret
                    exact ⟨rfl, HBU.out⟩
                · as_aux_lemma =>
                    refine anybut_take 19 213 rfl rfl (by kernel_rfl) (by kernel_rfl) (by kernel_rfl) (by kernel_rfl) (by decide) (fun _ _ _ h => h) (yields_of (by rfl) (fun w9 hS => (by obtain ⟨z_0, z_1, z_2, z_3, z_4⟩ := hS; go_simp; try rfl))) sS ?_
                    simp only [Act.put, List.setIfInBounds_toArray, List.set_cons_zero, List.set_cons_succ]
                    refine anybut_take 20 214 rfl rfl (by kernel_rfl) (by kernel_rfl) (by kernel_rfl) (by kernel_rfl) (by decide) (fun _ _ _ h => h) (yields_of (by rfl) (fun w9 hS => (by obtain ⟨z_0, z_1, z_2, z_3, z_4⟩ := hS; go_simp; try rfl))) sS ?_
                    simp only [Act.put, List.setIfInBounds_toArray, List.set_cons_zero, List.set_cons_succ]
                    refine anybut_take 21 215 rfl rfl (by kernel_rfl) (by kernel_rfl) (by kernel_rfl) (by kernel_rfl) (by decide) (fun _ _ _ h => h) (yields_of (by rfl) (fun w9 hS => (by obtain ⟨z_0, z_1, z_2, z_3, z_4⟩ := hS; go_simp; try rfl))) sS ?_
                    simp only [Act.put, List.setIfInBounds_toArray, List.set_cons_zero, List.set_cons_succ]
                    refine anybut_take 22 216 rfl rfl (by kernel_rfl) (by kernel_rfl) (by kernel_rfl) (by kernel_rfl) (by decide) (fun _ _ _ h => h) (yields_of (by rfl) (fun w9 hS => (by obtain ⟨z_0, z_1, z_2, z_3, z_4⟩ := hS; go_simp; try rfl))) sS ?_
                    simp only [Act.put, List.setIfInBounds_toArray, List.set_cons_zero, List.set_cons_succ]
                    refine anybut_take 23 217 rfl rfl (by kernel_rfl) (by kernel_rfl) (by kernel_rfl) (by kernel_rfl) (by decide) (fun _ _ _ h => h) (yields_of (by rfl) (fun w9 hS => (by obtain ⟨z_0, z_1, z_2, z_3, z_4⟩ := hS; go_simp; try rfl))) sS ?_
                    simp only [Act.put, List.setIfInBounds_toArray, List.set_cons_zero, List.set_cons_succ]
                    refine anybut_take 24 218 rfl rfl (by kernel_rfl) (by kernel_rfl) (by kernel_rfl) (by kernel_rfl) (by decide) (fun _ _ _ h => h) (yields_of (by rfl) (fun w9 hS => (by obtain ⟨z_0, z_1, z_2, z_3, z_4⟩ := hS; go_simp; try rfl))) sS ?_
                    simp only [Act.put, List.setIfInBounds_toArray, List.set_cons_zero, List.set_cons_succ]
                    refine anybut_take 25 219 rfl rfl (by kernel_rfl) (by kernel_rfl) (by kernel_rfl) (by kernel_rfl) (by decide) (fun _ _ _ h => h) (yields_of (by rfl) (fun w9 hS => (by obtain ⟨z_0, z_1, z_2, z_3, z_4⟩ := hS; go_simp; try rfl))) sS ?_
                    simp only [Act.put, List.setIfInBounds_toArray, List.set_cons_zero, List.set_cons_succ]
                    refine anybut_take 26 220 rfl rfl (by kernel_rfl) (by kernel_rfl) (by kernel_rfl) (by kernel_rfl) (by decide) (fun _ _ _ h => h) (yields_of (by rfl) (fun w9 hS => (by obtain ⟨z_0, z_1, z_2, z_3, z_4⟩ := hS; go_simp; try rfl))) sS ?_
                    simp only [Act.put, List.setIfInBounds_toArray, List.set_cons_zero, List.set_cons_succ]
                    refine anybut_take 27 221 rfl rfl (by kernel_rfl) (by kernel_rfl) (by kernel_rfl) (by kernel_rfl) (by decide) (fun _ _ _ h => h) (yields_of (by rfl) (fun w9 hS => (by obtain ⟨z_0, z_1, z_2, z_3, z_4⟩ := hS; go_simp; try rfl))) sS ?_
                    simp only [Act.put, List.setIfInBounds_toArray, List.set_cons_zero, List.set_cons_succ]
                    refine anybut_take 28 222 rfl rfl (by kernel_rfl) (by kernel_rfl) (by kernel_rfl) (by kernel_rfl) (by decide) (fun _ _ _ h => h) (yields_of (by rfl) (fun w9 hS => (by obtain ⟨z_0, z_1, z_2, z_3, z_4⟩ := hS; go_simp; try rfl))) sS ?_
                    simp only [Act.put, List.setIfInBounds_toArray, List.set_cons_zero, List.set_cons_succ]
                    refine anybut_take 29 223 rfl rfl (by kernel_rfl) (by kernel_rfl) (by kernel_rfl) (by kernel_rfl) (by decide) (fun _ _ _ h => h) (yields_of (by rfl) (fun w9 hS => (by obtain ⟨z_0, z_1, z_2, z_3, z_4⟩ := hS; go_simp; try rfl))) sS ?_
                    simp only [Act.put, List.setIfInBounds_toArray, List.set_cons_zero, List.set_cons_succ]
                    refine anybut_take 30 224 rfl rfl (by kernel_rfl) (by kernel_rfl) (by kernel_rfl) (by kernel_rfl) (by decide) (fun _ _ _ h => h) (yields_of (by rfl) (fun w9 hS => (by obtain ⟨z_0, z_1, z_2, z_3, z_4⟩ := hS; go_simp; try rfl))) sS ?_
                    simp only [Act.put, List.setIfInBounds_toArray, List.set_cons_zero, List.set_cons_succ]
                    refine anybut_take 31 225 rfl rfl (by kernel_rfl) (by kernel_rfl) (by kernel_rfl) (by kernel_rfl) (by decide) (fun _ _ _ h => h) (Or.inr ⟨by rfl, rfl⟩) sS ?_
                    simp only [Act.put, List.setIfInBounds_toArray, List.set_cons_zero, List.set_cons_succ]
                    refine anybut_take 32 226 rfl rfl (by kernel_rfl) (by kernel_rfl) (by kernel_rfl) (by kernel_rfl) (by decide) (fun _ _ _ h => h) (Or.inr ⟨by rfl, rfl⟩) sS ?_
                    simp only [Act.put, List.setIfInBounds_toArray, List.set_cons_zero, List.set_cons_succ]
                    refine anybut_take 33 227 rfl rfl (by kernel_rfl) (by kernel_rfl) (by kernel_rfl) (by kernel_rfl) (by decide) (fun _ _ _ h => h) (Or.inr ⟨by rfl, rfl⟩) sS ?_
                    simp only [Act.put, List.setIfInBounds_toArray, List.set_cons_zero, List.set_cons_succ]
                    refine anybut_take 34 228 rfl rfl (by kernel_rfl) (by kernel_rfl) (by kernel_rfl) (by kernel_rfl) (by decide) (fun _ _ _ h => h) (Or.inr ⟨by rfl, rfl⟩) sS ?_
                    simp only [Act.put, List.setIfInBounds_toArray, List.set_cons_zero, List.set_cons_succ]
                    refine anybut_take 35 229 rfl rfl (by kernel_rfl) (by kernel_rfl) (by kernel_rfl) (by kernel_rfl) (by decide) (fun _ _ _ h => h) (Or.inr ⟨by rfl, rfl⟩) sS ?_
                    simp only [Act.put, List.setIfInBounds_toArray, List.set_cons_zero, List.set_cons_succ]
                    refine anybut_take 36 230 rfl rfl (by kernel_rfl) (by kernel_rfl) (by kernel_rfl) (by kernel_rfl) (by decide) (fun _ _ _ h => h) (Or.inr ⟨by rfl, rfl⟩) sS ?_
                    simp only [Act.put, List.setIfInBounds_toArray, List.set_cons_zero, List.set_cons_succ]
                    refine anybut_take 37 231 rfl rfl (by kernel_rfl) (by kernel_rfl) (by kernel_rfl) (by kernel_rfl) (by decide) (fun _ _ _ h => h) (Or.inr ⟨by rfl, rfl⟩) sS ?_
                    simp only [Act.put, List.setIfInBounds_toArray, List.set_cons_zero, List.set_cons_succ]
                    refine anybut_take 38 232 rfl rfl (by kernel_rfl) (by kernel_rfl) (by kernel_rfl) (by kernel_rfl) (by decide) (fun _ _ _ h => h) (Or.inr ⟨by rfl, rfl⟩) sS ?_
                    simp only [Act.put, List.setIfInBounds_toArray, List.set_cons_zero, List.set_cons_succ]
                    refine anybut_take 39 233 rfl rfl (by kernel_rfl) (by kernel_rfl) (by kernel_rfl) (by kernel_rfl) (by decide) (fun _ _ _ h => h) (yields_of (by rfl) (fun w9 hS => (by obtain ⟨z_0, z_1, z_2, z_3, z_4⟩ := hS; go_simp; try rfl))) sS ?_
                    simp only [Act.put, List.setIfInBounds_toArray, List.set_cons_zero, List.set_cons_succ]
                    refine anybut_take 40 234 rfl rfl (by kernel_rfl) (by kernel_rfl) (by kernel_rfl) (by kernel_rfl) (by decide) (fun _ _ _ h => h) (yields_of (by rfl) (fun w9 hS => (by obtain ⟨z_0, z_1, z_2, z_3, z_4⟩ := hS; go_simp; try rfl))) sS ?_
                    simp only [Act.put, List.setIfInBounds_toArray, List.set_cons_zero, List.set_cons_succ]
                    refine anybut_take 41 235 rfl rfl (by kernel_rfl) (by kernel_rfl) (by kernel_rfl) (by kernel_rfl) (by decide) (fun _ _ _ h => h) (yields_of (by rfl) (fun w9 hS => (by obtain ⟨z_0, z_1, z_2, z_3, z_4⟩ := hS; go_simp; try rfl))) sS ?_
                    simp only [Act.put, List.setIfInBounds_toArray, List.set_cons_zero, List.set_cons_succ]
                    refine AnyBut.one 42 rfl (by kernel_rfl) (by rfl) ?_
                    go_simp
                    refine AnyBut.done (by kernel_rfl) ?_
                    go_wp2_with fail
                    go_ret
                    exact ⟨rfl, HBU.out⟩
                · as_aux_lemma =>
                    refine anybut_take 19 213 rfl rfl (by kernel_rfl) (by kernel_rfl) (by kernel_rfl) (by kernel_rfl) (by decide) (fun _ _ _ h => h) (yields_of (by rfl) (fun w9 hS => (by obtain ⟨z_0, z_1, z_2, z_3, z_4⟩ := hS; go_simp; try rfl))) sS ?_
                    simp only [Act.put, List.setIfInBounds_toArray, List.set_cons_zero, List.set_cons_succ]
                    refine anybut_take 20 214 rfl rfl (by kernel_rfl) (by kernel_rfl) (by kernel_rfl) (by kernel_rfl) (by decide) (fun _ _ _ h => h) (yields_of (by rfl) (fun w9 hS => (by obtain ⟨z_0, z_1, z_2, z_3, z_4⟩ := hS; go_simp; try rfl))) sS ?_
                    simp only [Act.put, List.setIfInBounds_toArray, List.set_cons_zero, List.set_cons_succ]
                    refine anybut_take 21 215 rfl rfl (by kernel_rfl) (by kernel_rfl) (by kernel_rfl) (by kernel_rfl) (by decide) (fun _ _ _ h => h) (yields_of (by rfl) (fun w9 hS => (by obtain ⟨z_0, z_1, z_2, z_3, z_4⟩ := hS; go_simp; try rfl))) sS ?_
                    simp only [Act.put, List.setIfInBounds_toArray, List.set_cons_zero, List.set_cons_succ]
                    refine anybut_take 22 216 rfl rfl (by kernel_rfl) (by kernel_rfl) (by kernel_rfl) (by kernel_rfl) (by decide) (fun _ _ _ h => h) (yields_of (by rfl) (fun w9 hS => (by obtain ⟨z_0, z_1, z_2, z_3, z_4⟩ := hS; go_simp; try rfl))) sS ?_
                    simp only [Act.put, List.setIfInBounds_toArray, List.set_cons_zero, List.set_cons_succ]
                    refine anybut_take 23 217 rfl rfl (by kernel_rfl) (by kernel_rfl) (by kernel_rfl) (by kernel_rfl) (by decide) (fun _ _ _ h => h) (yields_of (by rfl) (fun w9 hS => (by obtain ⟨z_0, z_1, z_2, z_3, z_4⟩ := hS; go_simp; try rfl))) sS ?_
                    simp only [Act.put, List.setIfInBounds_toArray, List.set_cons_zero, List.set_cons_succ]
                    refine anybut_take 24 218 rfl rfl (by kernel_rfl) (by kernel_rfl) (by kernel_rfl) (by kernel_rfl) (by decide) (fun _ _ _ h => h) (yields_of (by rfl) (fun w9 hS => (by obtain ⟨z_0, z_1, z_2, z_3, z_4⟩ := hS; go_simp; try rfl))) sS ?_
                    simp only [Act.put, List.setIfInBounds_toArray, List.set_cons_zero, List.set_cons_succ]
                    refine anybut_take 25 219 rfl rfl (by kernel_rfl) (by kernel_rfl) (by kernel_rfl) (by kernel_rfl) (by decide) (fun _ _ _ h => h) (yields_of (by rfl) (fun w9 hS => (by obtain ⟨z_0, z_1, z_2, z_3, z_4⟩ := hS; go_simp; try rfl))) sS ?_
                    simp only [Act.put, List.setIfInBounds_toArray, List.set_cons_zero, List.set_cons_succ]
                    refine anybut_take 26 220 rfl rfl (by kernel_rfl) (by kernel_rfl) (by kernel_rfl) (by kernel_rfl) (by decide) (fun _ _ _ h => h) (yields_of (by rfl) (fun w9 hS => (by obtain ⟨z_0, z_1, z_2, z_3, z_4⟩ := hS; go_simp; try rfl))) sS ?_
                    simp only [Act.put, List.setIfInBounds_toArray, List.set_cons_zero, List.set_cons_succ]
                    refine anybut_take 27 221 rfl rfl (by kernel_rfl) (by kernel_rfl) (by kernel_rfl) (by kernel_rfl) (by decide) (fun _ _ _ h => h) (yields_of (by rfl) (fun w9 hS => (by obtain ⟨z_0, z_1, z_2, z_3, z_4⟩ := hS; go_simp; try rfl))) sS ?_
                    simp only [Act.put, List.setIfInBounds_toArray, List.set_cons_zero, List.set_cons_succ]
                    refine anybut_take 28 222 rfl rfl (by kernel_rfl) (by kernel_rfl) (by kernel_rfl) (by kernel_rfl) (by decide) (fun _ _ _ h => h) (yields_of (by rfl) (fun w9 hS => (by obtain ⟨z_0, z_1, z_2, z_3, z_4⟩ := hS; go_simp; try rfl))) sS ?_
                    simp only [Act.put, List.setIfInBounds_toArray, List.set_cons_zero, List.set_cons_succ]
                    refine anybut_take 29 223 rfl rfl (by kernel_rfl) (by kernel_rfl) (by kernel_rfl) (by kernel_rfl) (by decide) (fun _ _ _ h => h) (yields_of (by rfl) (fun w9 hS => (by obtain ⟨z_0, z_1, z_2, z_3, z_4⟩ := hS; go_simp; try rfl))) sS ?_
                    simp only [Act.put, List.setIfInBounds_toArray, List.set_cons_zero, List.set_cons_succ]
                    refine anybut_take 30 224 rfl rfl (by kernel_rfl) (by kernel_rfl) (by kernel_rfl) (by kernel_rfl) (by decide) (fun _ _ _ h => h) (yields_of (by rfl) (fun w9 hS => (by obtain ⟨z_0, z_1, z_2, z_3, z_4⟩ := hS; go_simp; try rfl))) sS ?_
                    simp only [Act.put, List.setIfInBounds_toArray, List.set_cons_zero, List.set_cons_succ]
                    refine anybut_take 31 225 rfl rfl (by kernel_rfl) (by kernel_rfl) (by kernel_rfl) (by kernel_rfl) (by decide) (fun _ _ _ h => h) (yields_of (by rfl) (fun w9 hS => (by obtain ⟨z_0, z_1, z_2, z_3, z_4⟩ := hS; go_simp; try rfl))) sS ?_
                    simp only [Act.put, List.setIfInBounds_toArray, List.set_cons_zero, List.set_cons_succ]
                    refine anybut_take 32 226 rfl rfl (by kernel_rfl) (by kernel_rfl) (by kernel_rfl) (by kernel_rfl) (by decide) (fun _ _ _ h => h) (yields_of (by rfl) (fun w9 hS => (by obtain ⟨z_0, z_1, z_2, z_3, z_4⟩ := hS; go_simp; try rfl))) sS ?_
                    simp only [Act.put, List.setIfInBounds_toArray, List.set_cons_zero, List.set_cons_succ]
                    refine anybut_take 33 227 rfl rfl (by kernel_rfl) (by kernel_rfl) (by kernel_rfl) (by kernel_rfl) (by decide) (fun _ _ _ h => h) (yields_of (by rfl) (fun w9 hS => (by obtain ⟨z_0, z_1, z_2, z_3, z_4⟩ := hS; go_simp; try rfl))) sS ?_
                    simp only [Act.put, List.setIfInBounds_toArray, List.set_cons_zero, List.set_cons_succ]
                    refine anybut_take 34 228 rfl rfl (by kernel_rfl) (by kernel_rfl) (by kernel_rfl) (by kernel_rfl) (by decide) (fun _ _ _ h => h) (yields_of (by rfl) (fun w9 hS => (by obtain ⟨z_0, z_1, z_2, z_3, z_4⟩ := hS; go_simp; try rfl))) sS ?_
                    simp only [Act.put, List.setIfInBounds_toArray, List.set_cons_zero, List.set_cons_succ]
                    refine anybut_take 35 229 rfl rfl (by kernel_rfl) (by kernel_rfl) (by kernel_rfl) (by kernel_rfl) (by decide) (fun _ _ _ h => h) (yields_of (by rfl) (fun w9 hS => (by obtain ⟨z_0, z_1, z_2, z_3, z_4⟩ := hS; go_simp; try rfl))) sS ?_
                    simp only [Act.put, List.setIfInBounds_toArray, List.set_cons_zero, List.set_cons_succ]
                    refine anybut_take 36 230 rfl rfl (by kernel_rfl) (by kernel_rfl) (by kernel_rfl) (by kernel_rfl) (by decide) (fun _ _ _ h => h) (yields_of (by rfl) (fun w9 hS => (by obtain ⟨z_0, z_1, z_2, z_3, z_4⟩ := hS; go_simp; try rfl))) sS ?_
                    simp only [Act.put, List.setIfInBounds_toArray, List.set_cons_zero, List.set_cons_succ]
                    refine anybut_take 37 231 rfl rfl (by kernel_rfl) (by kernel_rfl) (by kernel_rfl) (by kernel_rfl) (by decide) (fun _ _ _ h => h) (yields_of (by rfl) (fun w9 hS => (by obtain ⟨z_0, z_1, z_2, z_3, z_4⟩ := hS; go_simp; try rfl))) sS ?_
                    simp only [Act.put, List.setIfInBounds_toArray, List.set_cons_zero, List.set_cons_succ]
                    refine anybut_take 38 232 rfl rfl (by kernel_rfl) (by kernel_rfl) (by kernel_rfl) (by kernel_rfl) (by decide) (fun _ _ _ h => h) (yields_of (by rfl) (fun w9 hS => (by obtain ⟨z_0, z_1, z_2, z_3, z_4⟩ := hS; go_simp; try rfl))) sS ?_
                    simp only [Act.put, List.setIfInBounds_toArray, List.set_cons_zero, List.set_cons_succ]
                    refine anybut_take 39 233 rfl rfl (by kernel_rfl) (by kernel_rfl) (by kernel_rfl) (by kernel_rfl) (by decide) (fun _ _ _ h => h) (yields_of (by rfl) (fun w9 hS => (by obtain ⟨z_0, z_1, z_2, z_3, z_4⟩ := hS; go_simp; try rfl))) sS ?_
                    simp only [Act.put, List.setIfInBounds_toArray, List.set_cons_zero, List.set_cons_succ]
                    refine anybut_take 40 234 rfl rfl (by kernel_rfl) (by kernel_rfl) (by kernel_rfl) (by kernel_rfl) (by decide) (fun _ _ _ h => h) (yields_of (by rfl) (fun w9 hS => (by obtain ⟨z_0, z_1, z_2, z_3, z_4⟩ := hS; go_simp; try rfl))) sS ?_
                    simp only [Act.put, List.setIfInBounds_toArray, List.set_cons_zero, List.set_cons_succ]
                    refine anybut_take 41 235 rfl rfl (by kernel_rfl) (by kernel_rfl) (by kernel_rfl) (by kernel_rfl) (by decide) (fun _ _ _ h => h) (yields_of (by rfl) (fun w9 hS => (by obtain ⟨z_0, z_1, z_2, z_3, z_4⟩ := hS; go_simp; try rfl))) sS ?_
                    simp only [Act.put, List.setIfInBounds_toArray, List.set_cons_zero, List.set_cons_succ]
                    refine AnyBut.one 42 rfl (by kernel_rfl) (by rfl) ?_
                    go_simp
                    refine AnyBut.done (by kernel_rfl) ?_
                    go_wp2_with fail
                    go_ret
                    exact ⟨rfl, HBU.out⟩

end Go.Proofs.Ytbomkifnhkmkoaa
