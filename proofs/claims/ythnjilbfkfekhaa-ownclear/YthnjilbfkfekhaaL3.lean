/- The law OwnClear. -/
import Derived.Test.YthnjilbfkfekhaaS1
namespace Go.Proofs.Ythnjilbfkfekhaa
open Go.RowKit Fl
set_option maxRecDepth 100000

theorem part_dark (L : Lay) (was : List Int) (n : Nat) (xs : List Vw) (p : Nat) : partO L was (List.replicate n false) xs p ≠ -2 := by
  have e : (List.replicate n false).getD p false = false := by
    rw [List.getD_eq_getElem?_getD, List.getElem?_replicate]; split <;> rfl
  unfold partO
  rw [e, if_neg (by decide)]
  split
  · rename_i h; have := h.1; omega
  · omega
theorem part_clear (L : Lay) (was : List Int) (n : Nat) (xs : List Vw) (p : Nat) (hp : p < n) : partO L was (List.replicate n true) xs p = -2 := by
  have e : (List.replicate n true).getD p false = true := by
    rw [List.getD_eq_getElem?_getD, List.getElem?_replicate, if_pos hp]; rfl
  unfold partO
  rw [e, if_pos rfl]
def mixB (n i : Nat) : List Bool := (List.range n).map fun j => decide (j < i)
theorem mixB_zero (n : Nat) : mixB n 0 = List.replicate n false := by
  apply List.ext_getElem
  · simp [mixB]
  · intro i h1 h2; simp [mixB]
theorem mixB_full (n : Nat) : mixB n n = List.replicate n true := by
  apply List.ext_getElem
  · simp [mixB]
  · intro i h1 h2
    have : i < n := by simpa [mixB] using h1
    simp [mixB, this]
theorem mixB_set (n i : Nat) : (mixB n i).set i true = mixB n (i + 1) := by
  apply List.ext_getElem
  · simp [mixB]
  · intro j h1 h2
    rw [List.getElem_set]
    by_cases e : i = j
    · subst e; simp [mixB]
    · rw [if_neg e]
      simp only [mixB, List.getElem_map, List.getElem_range, decide_eq_decide]
      omega
theorem cvals_set (l : List Bool) (q : Nat) (b : Bool) : (cvals l).toArray.setIfInBounds q (.bool b) = (cvals (l.set q b)).toArray := by
  simp [cvals, List.map_set]
theorem made_bools (n : Nat) : madeCells (Value.bool false).cells (n * 1) = (cvals (List.replicate n false)).toArray := by
  apply Array.ext
  · simp [madeCells, cvals]
  · intro i h1 h2
    simp [madeCells, cvals, Value.cells, Nat.mod_one]
theorem make_bools (n : Nat) (hn : n ≤ 1000) (w : World) :
    (Instr.makeSlice 27 (.int .i64 (n : Int)) (.int .i64 (n : Int))).run Try.prog w = .ok (.slice (some ⟨w.heap.size, 0, none⟩) n n) (w.alloc (.cells (cvals (List.replicate n false)).toArray 4)) := by
  obtain ⟨i0, hi, hz0, hz1, hz2⟩ := info_parts Try.info4n
  have h := run_make (P := Try.prog) w 27 4 i0 (.bool false) Try.underlying27 hi hz0 .i64 .i64 (n : Int) (n : Int) (by omega) (Int.le_refl _) (by rw [hz2]; omega) (by omega)
  rw [hz1, Int.toNat_natCast, made_bools] at h
  exact h
theorem Rd.bools {w : World} {g : Nat} {l : List Bool} (n : Nat) (hn : l.length = n) (h : Row w g 4 (cvals l).toArray) : Rd w w.heap.size (.slice (some ⟨g, 0, none⟩) n n) (cvals l) := by
  have hl : (cvals l).length = n := by simp [cvals, hn]
  refine ⟨_, n, by rw [hl], ⟨(fun e => by cases e), by omega⟩, fun _ => ⟨g, 0, rfl, h.lt, fun j u hu => ?_⟩⟩
  rw [Nat.zero_add, h.cell j]
  simpa using hu
theorem Row.other {w : World} {g : Nat} {t : TypeId} {cs : Array Value} (h : Row w g t cs) {a : Addr} (ha : g ≠ a.block) (u : Value) : Row (w.setCell a u) g t cs := (Below.heap_setCell w a u g ha).trans h

set_option maxHeartbeats 16000000 in
theorem lawClear (w : World) (d : Dr) (vr : Value) (f : Fd) (Ao Ac Av : Option Addr) (co cc cv : Nat) (hd : DrOk d) (hbr : BRows w w.heap.size vr d.routes) (hl : d.routes.length ≤ 9223372036854775807) (hrl : ∀ r ∈ d.routes, r.length ≤ 9223372036854775807)
    (hfv : FdV w w.heap.size Ao Ac Av co cc cv f) (hfo : FdOk f) (hfl : FdLen f) :
    Calls Try.prog 9 #[drV d vr, .agg (fcells Ao Ac Av f.own.length f.clr.length f.vws.length co cc cv)] w (RetL true w) := by
  obtain ⟨Ad, kd, cd, hvr⟩ : ∃ A k c, vr = .slice A k c := by obtain ⟨vs, ⟨A, c, e, _⟩, _⟩ := hbr; exact ⟨A, _, c, e⟩
  subst hvr
  have HSM : Hid (∀ W, Below w.heap.size w W → Calls Try.prog 11 #[.agg #[.int .u8 (d.form : Int), .int .u8 (d.len : Int), .int .u8 (d.speed : Int), .int .u16 (d.mute : Int), .int .u16 (d.wait : Int), .int .u8 (d.cancel : Int), .int .u8 (d.stay : Int), .int .u8 (d.join : Int), .slice Ad kd cd]] W (RetL (small d) W)) := fun W hW => small_any W d (.slice Ad kd cd) (hbr.up hW) hl hrl
  have HFW : Hid (∀ W, Below w.heap.size w W → Calls Try.prog 12 #[.agg (fcells Ao Ac Av f.own.length f.clr.length f.vws.length co cc cv)] W (RetL (fewB f) W)) := fun W hW => few_any W Ao Ac Av co cc cv f (hfv.up hW) hfl.vws hfl.span
  have HFU : Hid (small d = true → ∀ W, Below w.heap.size w W → Calls Try.prog 13 #[.agg #[.int .u8 (d.form : Int), .int .u8 (d.len : Int), .int .u8 (d.speed : Int), .int .u16 (d.mute : Int), .int .u16 (d.wait : Int), .int .u8 (d.cancel : Int), .int .u8 (d.stay : Int), .int .u8 (d.join : Int), .slice Ad kd cd]] W (RetLay (fullL d) W)) := fun hs W hW => full_any W d (.slice Ad kd cd) hd (hbr.up hW) hs
  have HLG := Lib.hid (full_g d)
  have HFV := Lib.hid hfv
  have HOK := Lib.hid hfo
  have HFL := Lib.hid hfl
  clear hbr hl hrl hd hfv hfo hfl
  unfold drV
  obtain ⟨no, hno⟩ : ∃ n, f.own.length = n := ⟨_, rfl⟩
  obtain ⟨nc, hnc⟩ : ∃ n, f.clr.length = n := ⟨_, rfl⟩
  obtain ⟨nv, hnv⟩ : ∃ n, f.vws.length = n := ⟨_, rfl⟩
  have HNO := Lib.hid hno; have HNC := Lib.hid hnc; have HNV := Lib.hid hnv
  rw [hno, hnc, hnv] at HFW ⊢
  clear hno hnc hnv
  have HB0 := Lib.hid (below2 w (.cells #[.int .u8 (d.form : Int), .int .u8 (d.len : Int), .int .u8 (d.speed : Int), .int .u16 (d.mute : Int), .int .u16 (d.wait : Int), .int .u8 (d.cancel : Int), .int .u8 (d.stay : Int), .int .u8 (d.join : Int), .slice Ad kd cd] 25) (.cells (fcells Ao Ac Av no nc nv co cc cv) 30))
  have HRD := Lib.hid ((Row.new w 25 #[.int .u8 (d.form : Int), .int .u8 (d.len : Int), .int .u8 (d.speed : Int), .int .u16 (d.mute : Int), .int .u16 (d.wait : Int), .int .u8 (d.cancel : Int), .int .u8 (d.stay : Int), .int .u8 (d.join : Int), .slice Ad kd cd]).alloc (.cells (fcells Ao Ac Av no nc nv co cc cv) 30))
  have hr1 := Row.new (w.alloc (.cells #[.int .u8 (d.form : Int), .int .u8 (d.len : Int), .int .u8 (d.speed : Int), .int .u16 (d.mute : Int), .int .u16 (d.wait : Int), .int .u8 (d.cancel : Int), .int .u8 (d.stay : Int), .int .u8 (d.join : Int), .slice Ad kd cd] 25)) 30 (fcells Ao Ac Av no nc nv co cc cv)
  rw [World.size_alloc] at hr1
  have HRX := Lib.hid hr1
  clear hr1
  generalize fullL d = L at *
  go_enter Try.func9, Try.ntmps9
  go_upto_region 1 with (fail)
  obtain ⟨n0, hn0⟩ : ∃ n, n = w.heap.size := ⟨_, rfl⟩
  obtain ⟨n1, hn1⟩ : ∃ n, n = n0 + 1 := ⟨_, rfl⟩
  rw [← hn0] at HRD HRX ⊢
  rw [← hn1] at HRX ⊢
  clear hn0 hn1
  generalize (w.alloc (.cells #[.int .u8 (d.form : Int), .int .u8 (d.len : Int), .int .u8 (d.speed : Int), .int .u16 (d.mute : Int), .int .u16 (d.wait : Int), .int .u8 (d.cancel : Int), .int .u8 (d.stay : Int), .int .u8 (d.join : Int), .slice Ad kd cd] 25)).alloc (.cells (fcells Ao Ac Av no nc nv co cc cv) 30) = W0 at *
  go_wp2_with fail
  refine (comes_any W0).mono ?_; rintro e wA ⟨rfl, hbA⟩
  have HA := Lib.hid (HB0.out.trans (hbA.mono HB0.out.size))
  have HDA := Lib.hid (Below.row hbA HRD.out HRD.out.lt)
  have HXA := Lib.hid (Below.row hbA HRX.out HRX.out.lt)
  clear hbA HB0 HRD HRX
  have f0 := HDA.out.cell 0; have f1 := HDA.out.cell 1; have f2 := HDA.out.cell 2; have f3 := HDA.out.cell 3; have f4 := HDA.out.cell 4; have f5 := HDA.out.cell 5; have f6 := HDA.out.cell 6; have f7 := HDA.out.cell 7; have f8 := HDA.out.cell 8
  simp only [List.getElem?_toArray, List.getElem?_cons_zero, List.getElem?_cons_succ] at f0 f1 f2 f3 f4 f5 f6 f7 f8
  go_wp2_with fail
  refine (HSM.out wA HA.out).mono ?_; rintro e wB ⟨rfl, hbB⟩
  have HB := Lib.hid (HA.out.trans (hbB.mono HA.out.size))
  have HDB := Lib.hid (Below.row hbB HDA.out HDA.out.lt)
  have HXB := Lib.hid (Below.row hbB HXA.out HXA.out.lt)
  clear hbB f0 f1 f2 f3 f4 f5 f6 f7 f8 HA HDA HXA
  cases hs : small d with
  | false =>
    clear HDB HXB
    go_wp2_with fail
    refine (comes_any wB).mono ?_; rintro e wZ ⟨rfl, hbZ⟩
    have HZ := Lib.hid (HB.out.trans (hbZ.mono HB.out.size))
    clear hbZ
    go_wp2_with fail
    go_ret
    exact ⟨rfl, HZ.out⟩
  | true =>
    have g0 := HXB.out.cell 0; have g1 := HXB.out.cell 1; have g2 := HXB.out.cell 2
    simp only [List.getElem?_toArray, List.getElem?_cons_zero, List.getElem?_cons_succ] at g0 g1 g2
    go_wp2_with fail
    refine (HFW.out wB HB.out).mono ?_; rintro e wC ⟨rfl, hbC⟩
    have HC := Lib.hid (HB.out.trans (hbC.mono HB.out.size))
    have HDC := Lib.hid (Below.row hbC HDB.out HDB.out.lt)
    have HXC := Lib.hid (Below.row hbC HXB.out HXB.out.lt)
    clear hbC g0 g1 g2 HB HDB HXB
    cases hfw : fewB f with
    | false =>
      clear HDC HXC
      go_wp2_with fail
      refine (comes_any wC).mono ?_; rintro e wZ ⟨rfl, hbZ⟩
      have HZ := Lib.hid (HC.out.trans (hbZ.mono HC.out.size))
      clear hbZ
      go_wp2_with fail
      go_ret
      exact ⟨rfl, HZ.out⟩
    | true =>

      have HFE := Lib.hid (few_ok hfw)
      have HXS := Lib.hid (views_ok HLG.out hfw)
      clear hfw
      have f0 := HDC.out.cell 0; have f1 := HDC.out.cell 1; have f2 := HDC.out.cell 2; have f3 := HDC.out.cell 3; have f4 := HDC.out.cell 4; have f5 := HDC.out.cell 5; have f6 := HDC.out.cell 6; have f7 := HDC.out.cell 7; have f8 := HDC.out.cell 8
      simp only [List.getElem?_toArray, List.getElem?_cons_zero, List.getElem?_cons_succ] at f0 f1 f2 f3 f4 f5 f6 f7 f8
      go_wp2_with fail
      refine (HFU.out hs wC HC.out).mono ?_; rintro e wD ⟨vL, rfl, hvL, hbD⟩
      obtain ⟨A0, k0, c0, A1, k1, c1, A2, k2, c2, A3, k3, c3, A4, k4, c4, t0, t1, t2, t3, t4, hv, -, -, hk2, -⟩ := hvL.lens
      subst hv
      have hba := (Below.refl wD.heap.size wD).alloc (Nat.le_refl _) (.cells #[.slice A0 k0 c0, .slice A1 k1 c1, .slice A2 k2 c2, .slice A3 k3 c3, .slice A4 k4 c4, .int .i64 t0, .int .i64 t1, .int .i64 t2, .int .i64 t3, .int .i64 t4] 39)
      have hbb := hbD.trans (hba.mono hbD.size)
      have HD := Lib.hid (HC.out.trans (hbb.mono HC.out.size))
      have HXD := Lib.hid (Below.row hbb HXC.out HXC.out.lt)
      have HLD := Lib.hid (Row.new wD 39 #[.slice A0 k0 c0, .slice A1 k1 c1, .slice A2 k2 c2, .slice A3 k3 c3, .slice A4 k4 c4, .int .i64 t0, .int .i64 t1, .int .i64 t2, .int .i64 t3, .int .i64 t4])
      have HVD := Lib.hid (hvL.up hba)
      have HK2 : Hid (L.parts.length = k2 ∧ k2 ≤ 100) := ⟨hk2, by rw [← hk2]; exact HLG.out.fits.p⟩
      have HFD := Lib.hid (HFV.out.up HD.out)
      clear hba hbb hbD hvL hk2 HC HDC HXC HSM HFW HFU f0 f1 f2 f3 f4 f5 f6 f7 f8 hs HFV
      go_upto_region 4 with (fail)
      obtain ⟨nL, hnL⟩ : ∃ n, n = wD.heap.size := ⟨_, rfl⟩
      rw [← hnL] at HLD ⊢
      clear hnL
      generalize wD.alloc (.cells #[.slice A0 k0 c0, .slice A1 k1 c1, .slice A2 k2 c2, .slice A3 k3 c3, .slice A4 k4 c4, .int .i64 t0, .int .i64 t1, .int .i64 t2, .int .i64 t3, .int .i64 t4] 39) = wD at *
      have p0 := HLD.out.cell 0; have p1 := HLD.out.cell 1; have p2 := HLD.out.cell 2; have p3 := HLD.out.cell 3; have p4 := HLD.out.cell 4; have p5 := HLD.out.cell 5; have p6 := HLD.out.cell 6; have p7 := HLD.out.cell 7; have p8 := HLD.out.cell 8; have p9 := HLD.out.cell 9
      simp only [List.getElem?_toArray, List.getElem?_cons_zero, List.getElem?_cons_succ] at p0 p1 p2 p3 p4 p5 p6 p7 p8 p9
      have g0 := HXD.out.cell 0; have g1 := HXD.out.cell 1; have g2 := HXD.out.cell 2
      simp only [List.getElem?_toArray, List.getElem?_cons_zero, List.getElem?_cons_succ] at g0 g1 g2
      go_wp2_with fail
      refine (views_any wD _ L Ao Ac Av no nc nv co cc cv f HVD.out HLG.out.fits HLG.out.secs.1 (by have := HFD.out.vws; rw [HNV.out] at this; exact this) HNV.out HOK.out HFE.out).mono ?_; rintro e wE ⟨Aa, ca, Ab, cb, rfl, hva, hvb, hbE⟩
      obtain ⟨xs, hxs⟩ : ∃ xs, viewsO L.secs.length f.vws = xs := ⟨_, rfl⟩
      rw [hxs] at hva hvb HXS
      obtain ⟨nx, hnx⟩ : ∃ n, xs.length = n := ⟨_, rfl⟩
      rw [hnx] at hva hvb
      have HST : Hid (LSt w n1 nL (fcells Ao Ac Av no nc nv co cc cv) #[.slice A0 k0 c0, .slice A1 k1 c1, .slice A2 k2 c2, .slice A3 k3 c3, .slice A4 k4 c4, .int .i64 t0, .int .i64 t1, .int .i64 t2, .int .i64 t3, .int .i64 t4] (.slice Aa nx ca) (.slice Ab nx cb) Ao Ac Av co cc cv f L xs wE) := ⟨HD.out.trans (hbE.mono HD.out.size), Below.row hbE HXD.out HXD.out.lt, Below.row hbE HLD.out HLD.out.lt, HVD.out.up hbE, HFD.out.up hbE, hva, hvb⟩
      rw [hxs, hnx]
      clear hbE p0 p1 p2 p3 p4 p5 p6 p7 p8 p9 g0 g1 g2 hva hvb hxs hnx HD HXD HLD HVD HFD HFE
      have HOWN : Hid (∀ W, LSt w n1 nL (fcells Ao Ac Av no nc nv co cc cv) #[.slice A0 k0 c0, .slice A1 k1 c1, .slice A2 k2 c2, .slice A3 k3 c3, .slice A4 k4 c4, .int .i64 t0, .int .i64 t1, .int .i64 t2, .int .i64 t3, .int .i64 t4] (.slice Aa nx ca) (.slice Ab nx cb) Ao Ac Av co cc cv f L xs W → Calls Try.prog 15 #[.agg #[.slice A0 k0 c0, .slice A1 k1 c1, .slice A2 k2 c2, .slice A3 k3 c3, .slice A4 k4 c4, .int .i64 t0, .int .i64 t1, .int .i64 t2, .int .i64 t3, .int .i64 t4], .agg (fcells Ao Ac Av no nc nv co cc cv)] W (RetRd (ivals (ownersL f L.parts.length)) W)) := fun W h => h.owners HLG.out HNO.out HOK.out
      have HNXF : Hid (∀ (W : World) (vw vc : Value), LSt w n1 nL (fcells Ao Ac Av no nc nv co cc cv) #[.slice A0 k0 c0, .slice A1 k1 c1, .slice A2 k2 c2, .slice A3 k3 c3, .slice A4 k4 c4, .int .i64 t0, .int .i64 t1, .int .i64 t2, .int .i64 t3, .int .i64 t4] (.slice Aa nx ca) (.slice Ab nx cb) Ao Ac Av co cc cv f L xs W → Rd W W.heap.size vw (ivals (ownersL f L.parts.length)) → Rd W W.heap.size vc (cvals (List.replicate k2 false)) → Calls Try.prog 17 #[.agg #[.slice A0 k0 c0, .slice A1 k1 c1, .slice A2 k2 c2, .slice A3 k3 c3, .slice A4 k4 c4, .int .i64 t0, .int .i64 t1, .int .i64 t2, .int .i64 t3, .int .i64 t4], vw, vc, .slice Aa nx ca] W (RetRow (nextO L (ownersL f L.parts.length) (List.replicate k2 false) xs) W)) := fun W vw vc h hw hc => h.next HLG.out HXS.out hw hc (ownersL_len _ _) (by rw [HK2.out.1]; simp) (ownersL_ok _ _)
      have HNXT : Hid (∀ (W : World) (vw vc : Value), LSt w n1 nL (fcells Ao Ac Av no nc nv co cc cv) #[.slice A0 k0 c0, .slice A1 k1 c1, .slice A2 k2 c2, .slice A3 k3 c3, .slice A4 k4 c4, .int .i64 t0, .int .i64 t1, .int .i64 t2, .int .i64 t3, .int .i64 t4] (.slice Aa nx ca) (.slice Ab nx cb) Ao Ac Av co cc cv f L xs W → Rd W W.heap.size vw (ivals (ownersL f L.parts.length)) → Rd W W.heap.size vc (cvals (List.replicate k2 true)) → Calls Try.prog 17 #[.agg #[.slice A0 k0 c0, .slice A1 k1 c1, .slice A2 k2 c2, .slice A3 k3 c3, .slice A4 k4 c4, .int .i64 t0, .int .i64 t1, .int .i64 t2, .int .i64 t3, .int .i64 t4], vw, vc, .slice Aa nx ca] W (RetRow (nextO L (ownersL f L.parts.length) (List.replicate k2 true) xs) W)) := fun W vw vc h hw hc => h.next HLG.out HXS.out hw hc (ownersL_len _ _) (by rw [HK2.out.1]; simp) (ownersL_ok _ _)
      have HNF : Hid ((nextO L (ownersL f L.parts.length) (List.replicate k2 false) xs).length = k2 ∧ ∀ z ∈ nextO L (ownersL f L.parts.length) (List.replicate k2 false) xs, z ≠ -2) := by
        refine ⟨by rw [nextO_len]; exact HK2.out.1, fun z hz => ?_⟩
        unfold nextO at hz
        rw [List.mem_map] at hz
        obtain ⟨p, _, rfl⟩ := hz
        exact part_dark L _ k2 xs p
      have HNT : Hid ((nextO L (ownersL f L.parts.length) (List.replicate k2 true) xs).length = k2 ∧ ∀ z ∈ nextO L (ownersL f L.parts.length) (List.replicate k2 true) xs, z = -2) := by
        refine ⟨by rw [nextO_len]; exact HK2.out.1, fun z hz => ?_⟩
        unfold nextO at hz
        rw [List.mem_map] at hz
        obtain ⟨p, hp, rfl⟩ := hz
        rw [List.mem_range, HK2.out.1] at hp
        exact part_clear L _ k2 xs p hp
      generalize nextO L (ownersL f L.parts.length) (List.replicate k2 false) xs = nnF at *
      generalize nextO L (ownersL f L.parts.length) (List.replicate k2 true) xs = nnT at *
      generalize ownersL f L.parts.length = was at *
      have HSS : Hid (∀ W, LSt w n1 nL (fcells Ao Ac Av no nc nv co cc cv) #[.slice A0 k0 c0, .slice A1 k1 c1, .slice A2 k2 c2, .slice A3 k3 c3, .slice A4 k4 c4, .int .i64 t0, .int .i64 t1, .int .i64 t2, .int .i64 t3, .int .i64 t4] (.slice Aa nx ca) (.slice Ab nx cb) Ao Ac Av co cc cv f L xs W → (W.cell? ⟨nL, 0, none⟩ = some (.slice A0 k0 c0) ∧ W.cell? ⟨nL, 1, none⟩ = some (.slice A1 k1 c1) ∧ W.cell? ⟨nL, 2, none⟩ = some (.slice A2 k2 c2) ∧ W.cell? ⟨nL, 3, none⟩ = some (.slice A3 k3 c3) ∧ W.cell? ⟨nL, 4, none⟩ = some (.slice A4 k4 c4) ∧ W.cell? ⟨nL, 5, none⟩ = some (.int .i64 t0) ∧ W.cell? ⟨nL, 6, none⟩ = some (.int .i64 t1) ∧ W.cell? ⟨nL, 7, none⟩ = some (.int .i64 t2) ∧ W.cell? ⟨nL, 8, none⟩ = some (.int .i64 t3) ∧ W.cell? ⟨nL, 9, none⟩ = some (.int .i64 t4) ∧ W.cell? ⟨n1, 0, none⟩ = some (.slice Ao no co) ∧ W.cell? ⟨n1, 1, none⟩ = some (.slice Ac nc cc) ∧ W.cell? ⟨n1, 2, none⟩ = some (.slice Av nv cv))) := fun W h => ⟨h.rl.cell 0, h.rl.cell 1, h.rl.cell 2, h.rl.cell 3, h.rl.cell 4, h.rl.cell 5, h.rl.cell 6, h.rl.cell 7, h.rl.cell 8, h.rl.cell 9, h.rf.cell 0, h.rf.cell 1, h.rf.cell 2⟩
      have hk100 := HK2.out.2
      have hmk := make_bools k2 (by omega)
      have hba := (Below.refl wE.heap.size wE).alloc (Nat.le_refl _) (.cells (cvals (List.replicate k2 false)).toArray 4)
      have HSTX : Hid (LSt w n1 nL (fcells Ao Ac Av no nc nv co cc cv) #[.slice A0 k0 c0, .slice A1 k1 c1, .slice A2 k2 c2, .slice A3 k3 c3, .slice A4 k4 c4, .int .i64 t0, .int .i64 t1, .int .i64 t2, .int .i64 t3, .int .i64 t4] (.slice Aa nx ca) (.slice Ab nx cb) Ao Ac Av co cc cv f L xs (wE.alloc (.cells (cvals (List.replicate k2 false)).toArray 4))) := HST.out.call hba
      have HALL : Hid (Row (wE.alloc (.cells (cvals (List.replicate k2 false)).toArray 4)) wE.heap.size 4 (cvals (List.replicate k2 false)).toArray) := Row.new wE 4 _
      have p2 := HST.out.rl.cell 2
      simp only [List.getElem?_toArray, List.getElem?_cons_zero, List.getElem?_cons_succ] at p2
      have HBQ : Hid (Below wE.heap.size wE (wE.alloc (.cells (cvals (List.replicate k2 false)).toArray 4))) := hba
      clear hba
      go_upto_region 6 with (fail)
      obtain ⟨ga, hga⟩ : ∃ n, n = wE.heap.size := ⟨_, rfl⟩
      have HGE : Hid (wE.heap.size = ga) := hga.symm
      rw [← hga] at HALL ⊢
      clear hga hmk p2
      generalize wE.alloc (.cells (cvals (List.replicate k2 false)).toArray 4) = wQ at *
      have HCLX : Hid (Rd wQ wQ.heap.size (.slice (some ⟨ga, 0, none⟩) k2 k2) (cvals (List.replicate k2 false))) := Rd.bools k2 (by simp) HALL.out
      have HGA : Hid (ga < wQ.heap.size ∧ w.heap.size ≤ ga) := ⟨HALL.out.lt, by have := HST.out.bel.size; have := HGE.out; omega⟩
      rw [HGE.out] at HBQ
      go_upto_region 6 with (fail)
      go_cut [9] (fun v wx => ∃ g, v = .slice (some ⟨g, 0, none⟩) k2 k2 ∧ Hid (LSt w n1 nL (fcells Ao Ac Av no nc nv co cc cv) #[.slice A0 k0 c0, .slice A1 k1 c1, .slice A2 k2 c2, .slice A3 k3 c3, .slice A4 k4 c4, .int .i64 t0, .int .i64 t1, .int .i64 t2, .int .i64 t3, .int .i64 t4] (.slice Aa nx ca) (.slice Ab nx cb) Ao Ac Av co cc cv f L xs wx ∧ Row wx g 3 (ivals nnF).toArray ∧ Below wQ.heap.size wQ wx ∧ wQ.heap.size ≤ g))
      case first =>
        rename_i J K' hJ hK
        have hbd := (Below.refl wQ.heap.size wQ).drew
        have hst := HSTX.out.call hbd
        have hcA := HCLX.out.up hbd
        have hbz := hbd
        have s0 := HSS.out _ hst
        obtain ⟨r0, r1, r2, r3, r4, r5, r6, r7, r8, r9, r10, r11, r12⟩ := (show _ from s0)
        clear hbd
        go_region_held3 (fun w' => (w'.cell? ⟨nL, 0, none⟩ = some (.slice A0 k0 c0) ∧ w'.cell? ⟨nL, 1, none⟩ = some (.slice A1 k1 c1) ∧ w'.cell? ⟨nL, 2, none⟩ = some (.slice A2 k2 c2) ∧ w'.cell? ⟨nL, 3, none⟩ = some (.slice A3 k3 c3) ∧ w'.cell? ⟨nL, 4, none⟩ = some (.slice A4 k4 c4) ∧ w'.cell? ⟨nL, 5, none⟩ = some (.int .i64 t0) ∧ w'.cell? ⟨nL, 6, none⟩ = some (.int .i64 t1) ∧ w'.cell? ⟨nL, 7, none⟩ = some (.int .i64 t2) ∧ w'.cell? ⟨nL, 8, none⟩ = some (.int .i64 t3) ∧ w'.cell? ⟨nL, 9, none⟩ = some (.int .i64 t4) ∧ w'.cell? ⟨n1, 0, none⟩ = some (.slice Ao no co) ∧ w'.cell? ⟨n1, 1, none⟩ = some (.slice Ac nc cc) ∧ w'.cell? ⟨n1, 2, none⟩ = some (.slice Av nv cv))) (first | (with_reducible assumption) | (with_reducible exact s0) | go_keep) (first | (go_at_call 15; (with_reducible refine (HOWN.out _ hst).mono ?_); rintro y v1 ⟨A9, c9, rfl, hr, hb⟩; have hbz := hbz.trans (hb.mono hbz.size); have hst := LSt.call hst hb; have s0 := HSS.out _ hst; (try have hWS := Rd.up hWS hb); (try have hcA := Rd.up hcA hb); (try have hcB := Rd.up hcB hb); (try have hnA := Rd.up hnA hb); (try have hnB := Rd.up hnB hb); have hnB := hr; clear hr hb) | (go_at_call 17; (with_reducible refine (HNXF.out _ _ _ hst hnB hcA).mono ?_); rintro y v1 ⟨g9, hy, hg, hr, hb⟩; rw [HNF.out.1] at hy; subst hy; have hgg := Nat.le_trans hbz.size hg; have hbz := hbz.trans (hb.mono hbz.size); have hst := LSt.call hst hb; have s0 := HSS.out _ hst; have hrow := hr; clear hr hb hg))
        all_goals (refine hK _ _ (Met.intro (hJ _ _ ?_)); (repeat apply Exists.intro); refine ⟨?rel, rfl⟩; case rel => exact ⟨_, rfl, hst, hrow, hbz, hgg⟩)
      case rest =>
        obtain ⟨gF, rfl, HCX⟩ := hcut
        have HALL2 : Hid (Row wc ga 4 (cvals (mixB k2 0)).toArray) := by rw [mixB_zero]; exact Below.row HCX.out.2.2.1 HALL.out HALL.out.lt
        have HBW : Hid (Below ga wE wc) := HBQ.out.trans (HCX.out.2.2.1.mono (Nat.le_of_lt HGA.out.1))
        have HRF : Hid (Row wc gF 3 (ivals nnF).toArray) := HCX.out.2.1
        have HGF : Hid (ga < gF) := Nat.lt_of_lt_of_le HGA.out.1 HCX.out.2.2.2
        clear HSTX HCLX HALL HBQ HCX
        go_wp2_with fail
        go_loopw [10] (fun k wr => ∃ i : Nat, i ≤ k2 ∧ k = .int .i64 i ∧ Hid (Below ga wE wr ∧ Row wr ga 4 (cvals (mixB k2 i)).toArray ∧ Row wr gF 3 (ivals nnF).toArray)) (fun k _ => k2 - (RowKit.intOf k).toNat)
        case atStart => exact ⟨0, Nat.zero_le _, rfl, HBW.out, HALL2.out, HRF.out⟩
        case round =>
          obtain ⟨i, hi, rfl, HJ⟩ := hrel
          clear HBW HALL2 HRF
          by_cases hlt : i < k2
          · have hli : (i : Int) < (k2 : Int) := by omega
            have c0 := HJ.out.2.1.cell i; have z0 := HJ.out.2.1.frozen i
            have c1 : wr.cell? ⟨ga, i, none⟩ = some (.bool false) := by rw [c0]; simp [cvals, mixB, hlt]
            clear c0
            have HJ2 : Hid (Below ga wE (wr.setCell ⟨ga, i, none⟩ (.bool true)) ∧ Row (wr.setCell ⟨ga, i, none⟩ (.bool true)) ga 4 (cvals (mixB k2 (i + 1))).toArray ∧ Row (wr.setCell ⟨ga, i, none⟩ (.bool true)) gF 3 (ivals nnF).toArray) := by
              have hset := HJ.out.2.1.set i (.bool true)
              rw [cvals_set, mixB_set] at hset
              exact ⟨HJ.out.1.setCell (p := ⟨ga, i, none⟩) (Nat.le_refl _) _, hset, HJ.out.2.2.other (a := ⟨ga, i, none⟩) (by have := HGF.out; show gF ≠ ga; omega) _⟩
            go_wp2_with fail
            go_roundw
            case rel => exact ⟨i + 1, by omega, by go_num, HJ2.out⟩
            case measure => simp [RowKit.intOf]; omega
          · have hin : i = k2 := by omega
            have HSTX : Hid (LSt w n1 nL (fcells Ao Ac Av no nc nv co cc cv) #[.slice A0 k0 c0, .slice A1 k1 c1, .slice A2 k2 c2, .slice A3 k3 c3, .slice A4 k4 c4, .int .i64 t0, .int .i64 t1, .int .i64 t2, .int .i64 t3, .int .i64 t4] (.slice Aa nx ca) (.slice Ab nx cb) Ao Ac Av co cc cv f L xs wr) := HST.out.call (by rw [HGE.out]; exact HJ.out.1)
            have HRG : Hid (Row wr ga 4 (cvals (List.replicate k2 true)).toArray) := by have h := HJ.out.2.1; rw [hin, mixB_full] at h; exact h
            have HCLX : Hid (Rd wr wr.heap.size (.slice (some ⟨ga, 0, none⟩) k2 k2) (cvals (List.replicate k2 true))) := Rd.bools k2 (by simp) HRG.out
            have HRF := Lib.hid HJ.out.2.2
            have hli : ¬ (i : Int) < (k2 : Int) := by omega
            clear HST HJ hin
            go_upto_region 11 with (fail)
            go_cut [11] (fun v wx => ∃ g, v = .slice (some ⟨g, 0, none⟩) k2 k2 ∧ Hid (LSt w n1 nL (fcells Ao Ac Av no nc nv co cc cv) #[.slice A0 k0 c0, .slice A1 k1 c1, .slice A2 k2 c2, .slice A3 k3 c3, .slice A4 k4 c4, .int .i64 t0, .int .i64 t1, .int .i64 t2, .int .i64 t3, .int .i64 t4] (.slice Aa nx ca) (.slice Ab nx cb) Ao Ac Av co cc cv f L xs wx ∧ Row wx g 3 (ivals nnT).toArray ∧ Below wr.heap.size wr wx ∧ wr.heap.size ≤ g))
            case first =>
              rename_i J K' hJ hK
              have hbd := (Below.refl wr.heap.size wr).drew
              have hst := HSTX.out.call hbd
              have hcA := HCLX.out.up hbd
              have hbz := hbd
              have s0 := HSS.out _ hst
              obtain ⟨r0, r1, r2, r3, r4, r5, r6, r7, r8, r9, r10, r11, r12⟩ := (show _ from s0)
              clear hbd
              go_region_held3 (fun w' => (w'.cell? ⟨nL, 0, none⟩ = some (.slice A0 k0 c0) ∧ w'.cell? ⟨nL, 1, none⟩ = some (.slice A1 k1 c1) ∧ w'.cell? ⟨nL, 2, none⟩ = some (.slice A2 k2 c2) ∧ w'.cell? ⟨nL, 3, none⟩ = some (.slice A3 k3 c3) ∧ w'.cell? ⟨nL, 4, none⟩ = some (.slice A4 k4 c4) ∧ w'.cell? ⟨nL, 5, none⟩ = some (.int .i64 t0) ∧ w'.cell? ⟨nL, 6, none⟩ = some (.int .i64 t1) ∧ w'.cell? ⟨nL, 7, none⟩ = some (.int .i64 t2) ∧ w'.cell? ⟨nL, 8, none⟩ = some (.int .i64 t3) ∧ w'.cell? ⟨nL, 9, none⟩ = some (.int .i64 t4) ∧ w'.cell? ⟨n1, 0, none⟩ = some (.slice Ao no co) ∧ w'.cell? ⟨n1, 1, none⟩ = some (.slice Ac nc cc) ∧ w'.cell? ⟨n1, 2, none⟩ = some (.slice Av nv cv))) (first | (with_reducible assumption) | (with_reducible exact s0) | go_keep) (first | (go_at_call 15; (with_reducible refine (HOWN.out _ hst).mono ?_); rintro y v1 ⟨A9, c9, rfl, hr, hb⟩; have hbz := hbz.trans (hb.mono hbz.size); have hst := LSt.call hst hb; have s0 := HSS.out _ hst; (try have hWS := Rd.up hWS hb); (try have hcA := Rd.up hcA hb); (try have hcB := Rd.up hcB hb); (try have hnA := Rd.up hnA hb); (try have hnB := Rd.up hnB hb); have hnB := hr; clear hr hb) | (go_at_call 17; (with_reducible refine (HNXT.out _ _ _ hst hnB hcA).mono ?_); rintro y v1 ⟨g9, hy, hg, hr, hb⟩; rw [HNT.out.1] at hy; subst hy; have hgg := Nat.le_trans hbz.size hg; have hbz := hbz.trans (hb.mono hbz.size); have hst := LSt.call hst hb; have s0 := HSS.out _ hst; have hrow := hr; clear hr hb hg))
              all_goals (refine hK _ _ (Met.intro (hJ _ _ ?_)); (repeat apply Exists.intro); refine ⟨?rel, rfl⟩; case rel => exact ⟨_, rfl, hst, hrow, hbz, hgg⟩)
            case rest =>
              obtain ⟨gT, rfl, HCX⟩ := hcut
              have HRF2 := Lib.hid (Below.row HCX.out.2.2.1 HRF.out HRF.out.lt)
              have HRT := Lib.hid HCX.out.2.1
              have HSTZ := Lib.hid HCX.out.1
              clear HCX HRF HRG HCLX HSTX
              go_wp2_with fail
              go_loop [12] (fun k => ∃ i : Nat, i ≤ k2 ∧ k = .int .i64 i) (fun k => k2 - (RowKit.intOf k).toNat)
              case atStart => exact ⟨0, Nat.zero_le _, rfl⟩
              case round =>
                obtain ⟨j, hj, rfl⟩ := hrel
                by_cases hjl : j < k2
                · have hjli : (j : Int) < (k2 : Int) := by omega
                  have hjln : ¬ (k2 : Int) ≤ (j : Int) := by omega
                  have h1 : j < nnT.length := by have := HNT.out.1; omega
                  have h2 : j < nnF.length := by have := HNF.out.1; omega
                  have c1 := HRT.out.cell j
                  have c2 := HRF2.out.cell j
                  have d1 : wc.cell? ⟨gT, j, none⟩ = some (.int .i64 (-2)) := by rw [c1]; simp [ivals, h1, HNT.out.2 nnT[j] (List.getElem_mem h1)]
                  have d2 : wc.cell? ⟨gF, j, none⟩ = some (.int .i64 nnF[j]) := by rw [c2]; simp [ivals, h2]
                  have hz := HNF.out.2 nnF[j] (List.getElem_mem h2)
                  generalize nnF[j] = z at *
                  have hz0 : (z == -2) = false := by simpa using hz
                  clear c1 c2
                  go_wp2_with fail
                  go_roundw
                  case rel => exact ⟨j + 1, by omega, by go_num⟩
                  case measure => simp [RowKit.intOf]; omega
                · have hjli : ¬ (j : Int) < (k2 : Int) := by omega
                  have p2 := HSTZ.out.rl.cell 2
                  simp only [List.getElem?_toArray, List.getElem?_cons_zero, List.getElem?_cons_succ] at p2
                  have hkk : ((k2 : Int) == (k2 : Int)) = true := by simp
                  go_wp2_with fail
                  go_ret
                  exact ⟨rfl, HSTZ.out.bel⟩

end Go.Proofs.Ythnjilbfkfekhaa
