/- Contracts: the document's Span. -/
import Derived.Test.YtbomkifnhkmkoaaA2
import Derived.Test.YtbomkifnhkmkoaaK
namespace Go.Proofs.Ytbomkifnhkmkoaa
open Go.RowKit Fl
set_option maxRecDepth 100000

set_option maxHeartbeats 16000000 in
theorem refSpan_any (w : World) (D : Nat) (vL : Value) (L : Lay) (a b c d e : Int) (At : Option Addr) (ct : Nat) (tr : List Int) (now sp : Int) (AR : Option Addr) (cR : Nat) (R : List Bool)
    (h : LayV w D vL L) (hD : D ≤ w.heap.size) (hL : Fits L) (T : Tame L) (hlen : ∀ n : Nat, n < L.secs.length → 0 < lenL L.secs (n : Int) ∧ lenL L.secs (n : Int) ≤ 1000)
    (htr : Rd w w.heap.size (.slice At tr.length ct) (ivals tr)) (htl : tr.length ≤ 1000) (hR : Rd w w.heap.size (.slice AR R.length cR) (cvals R))
    (h0 : tr.length ≠ 0) (ok : okE L (tr.getD 0 0, d)) (hs : 0 ≤ sp ∧ sp ≤ 1000000) (hd : 0 ≤ now - b ∧ now - b ≤ 1000000000000) (he : 0 ≤ e ∧ e ≤ 1000000000000) :
    Calls Try.prog 13 #[vL, .agg (tcells a b c d e (.slice At tr.length ct)), .int .i64 now, .int .i64 sp, .slice AR R.length cR] w (RetAhead ((aheadL L R tr d (sp * (now - b) - e)).1.reverse ++ tr, (aheadL L R tr d (sp * (now - b) - e)).2) w) := by
  have hmb := metres_le hs hd
  obtain ⟨r, hr⟩ : ∃ r, aheadL L R tr d (sp * (now - b) - e) = r := ⟨_, rfl⟩
  have HG : Hid (GoSt L R tr r (tr.getD 0 0, d) (sp * (now - b) - e) []) := by show GoSt _ _ _ _ _ _ _; rw [← hr]; exact GoSt.start h0 ok
  rw [hr]
  clear hr ok
  obtain ⟨A0, k0, c0, A1, k1, c1, A2, k2, c2, A3, k3, c3, A4, k4, c4, t0, t1, t2, t3, t4, hvL, -, -, -, -⟩ := h.lens
  have HI := Lib.hid h
  have HL := Lib.hid hL; have HT := Lib.hid T; have HLEN := Lib.hid hlen
  have hb0 := (below2 w (.cells #[.slice A0 k0 c0, .slice A1 k1 c1, .slice A2 k2 c2, .slice A3 k3 c3, .slice A4 k4 c4, .int .i64 t0, .int .i64 t1, .int .i64 t2, .int .i64 t3, .int .i64 t4] 37) (.cells (tcells a b c d e (.slice At tr.length ct)) 41)).alloc (by simp; omega) (.cells #[.int .i64 0, .int .i64 0] 47)
  have HB0 := Lib.hid hb0
  have HTR := Lib.hid htr
  have HRT := Lib.hid hR
  have HRL := Lib.hid (((Row.new w 37 #[.slice A0 k0 c0, .slice A1 k1 c1, .slice A2 k2 c2, .slice A3 k3 c3, .slice A4 k4 c4, .int .i64 t0, .int .i64 t1, .int .i64 t2, .int .i64 t3, .int .i64 t4]).alloc (.cells (tcells a b c d e (.slice At tr.length ct)) 41)).alloc (.cells #[.int .i64 0, .int .i64 0] 47))
  have hr1 := (Row.new (w.alloc (.cells #[.slice A0 k0 c0, .slice A1 k1 c1, .slice A2 k2 c2, .slice A3 k3 c3, .slice A4 k4 c4, .int .i64 t0, .int .i64 t1, .int .i64 t2, .int .i64 t3, .int .i64 t4] 37)) 41 (tcells a b c d e (.slice At tr.length ct))).alloc (.cells #[.int .i64 0, .int .i64 0] 47)
  rw [World.size_alloc] at hr1
  have HRW := Lib.hid hr1
  have hro := Row.new ((w.alloc (.cells #[.slice A0 k0 c0, .slice A1 k1 c1, .slice A2 k2 c2, .slice A3 k3 c3, .slice A4 k4 c4, .int .i64 t0, .int .i64 t1, .int .i64 t2, .int .i64 t3, .int .i64 t4] 37)).alloc (.cells (tcells a b c d e (.slice At tr.length ct)) 41)) 47 #[.int .i64 0, .int .i64 0]
  rw [World.size_alloc, World.size_alloc] at hro
  have HRO := Lib.hid hro
  clear hb0 htr hR hr1 hro h hL T hlen
  have HMB : Hid (sp * (now - b) - e ≤ 1000000000000000000) := by show _ ≤ _; omega
  have hq1 : IntKind.i64.wrap (now - b) = now - b := IntWalk.i64_in _ (by omega)
  obtain ⟨Dd, hDd⟩ : ∃ D, now - b = D := ⟨_, rfl⟩
  rw [hDd] at hmb hq1 HMB HG
  have hq2 : IntKind.i64.wrap (sp * Dd) = sp * Dd := IntWalk.i64_in _ (by omega)
  have hq3 : IntKind.i64.wrap (sp * Dd - e) = sp * Dd - e := IntWalk.i64_in _ (by omega)
  have HWQ : Hid (IntKind.i64.wrap (now - b) = Dd ∧ IntKind.i64.wrap (sp * Dd) = sp * Dd ∧ IntKind.i64.wrap (sp * Dd - e) = sp * Dd - e) := ⟨by rw [hDd]; exact hq1, hq2, hq3⟩
  clear hq1 hq2 hq3 hmb hs hd he hDd
  subst hvL
  have hl0 : ¬ (tr.length : Int) = 0 := by omega
  have hl1 : ((tr.length : Int) == 0) = false := by simpa using h0
  have hl2 : (0 : Int) < (tr.length : Int) := by omega
  have hl3 : 0 < tr.length := by omega
  obtain ⟨x0, hx0⟩ : ∃ x, tr.getD 0 0 = x := ⟨_, rfl⟩
  rw [hx0] at HG
  have hx1 : tr[0]? = some x0 := by rw [← hx0]; simp [List.getD, hl3]
  clear hx0
  go_enter Try.func13, Try.ntmps13
  go_upto_region 1 with (fail)
  obtain ⟨nL, hnL⟩ : ∃ n, n = w.heap.size := ⟨_, rfl⟩
  obtain ⟨n0, hn0⟩ : ∃ n, n = nL + 1 := ⟨_, rfl⟩
  obtain ⟨n1, hn1⟩ : ∃ n, n = n0 + 1 := ⟨_, rfl⟩
  obtain ⟨n2, hn2⟩ : ∃ n, n = n1 + 1 := ⟨_, rfl⟩
  rw [← hnL] at HRL HRW HRO HB0 HTR HRT ⊢
  rw [← hn0] at HRW HRO ⊢
  rw [← hn1] at HRO ⊢
  have hsz : (((w.alloc (.cells #[.slice A0 k0 c0, .slice A1 k1 c1, .slice A2 k2 c2, .slice A3 k3 c3, .slice A4 k4 c4, .int .i64 t0, .int .i64 t1, .int .i64 t2, .int .i64 t3, .int .i64 t4] 37)).alloc (.cells (tcells a b c d e (.slice At tr.length ct)) 41)).alloc (.cells #[.int .i64 0, .int .i64 0] 47)).heap.size = n2 := by simp; omega
  have HN : Hid (nL = w.heap.size ∧ n0 = nL + 1 ∧ n1 = n0 + 1 ∧ n2 = n1 + 1 ∧ D ≤ nL) := ⟨hnL, hn0, hn1, hn2, by omega⟩
  have hDN : D ≤ nL := by omega
  clear hnL hn0 hn1 hn2 hD
  generalize ((w.alloc (.cells #[.slice A0 k0 c0, .slice A1 k1 c1, .slice A2 k2 c2, .slice A3 k3 c3, .slice A4 k4 c4, .int .i64 t0, .int .i64 t1, .int .i64 t2, .int .i64 t3, .int .i64 t4] 37)).alloc (.cells (tcells a b c d e (.slice At tr.length ct)) 41)).alloc (.cells #[.int .i64 0, .int .i64 0] 47) = W0 at *
  have e5 := HRW.out.cell 5
  simp only [List.getElem?_toArray, List.getElem?_cons_zero, List.getElem?_cons_succ] at e5
  go_upto_region 4 with (fail)
  clear e5
  obtain ⟨bt, ot, hAt, -, q0⟩ := (HTR.out.below HB0.out (Nat.le_refl _)).at (i := 0) (u := .int .i64 x0) (by simp [ivals, hx1])
  subst hAt
  have e3 := HRW.out.cell 3; have e5 := HRW.out.cell 5
  simp only [List.getElem?_toArray, List.getElem?_cons_zero, List.getElem?_cons_succ, Nat.add_zero] at e3 e5 q0
  go_cut [13] (fun v wx => v = .pointer (some ⟨n2, 0, none⟩) ∧ Hid (Below nL w wx ∧ Row wx nL 37 #[.slice A0 k0 c0, .slice A1 k1 c1, .slice A2 k2 c2, .slice A3 k3 c3, .slice A4 k4 c4, .int .i64 t0, .int .i64 t1, .int .i64 t2, .int .i64 t3, .int .i64 t4] ∧ Row wx n0 41 (tcells a b c d e (.slice (some ⟨bt, ot, none⟩) tr.length ct)) ∧ Row wx n1 47 #[.int .i64 0, .int .i64 0] ∧ Row wx n2 47 #[.int .i64 x0, .int .i64 d]))
  case first =>
    rename_i J K' hJ hK
    have s0 : W0.drew.cell? ⟨n0, 3, none⟩ = some (.int .i64 d) ∧ W0.drew.cell? ⟨n0, 5, none⟩ = some (.slice (some ⟨bt, ot, none⟩) tr.length ct) ∧ W0.drew.cell? ⟨bt, ot, none⟩ = some (.int .i64 x0) := ⟨e3, e5, q0⟩
    obtain ⟨s1, s2, s3⟩ := id s0
    have hba := (Below.refl W0.heap.size W0).alloc (Nat.le_refl _) (.cells #[.int .i64 x0, .int .i64 d] 47)
    have hrn := Row.new W0 47 #[.int .i64 x0, .int .i64 d]
    rw [hsz] at hrn
    have HC : Hid (Below nL w (W0.alloc (.cells #[.int .i64 x0, .int .i64 d] 47)).drew ∧ Row (W0.alloc (.cells #[.int .i64 x0, .int .i64 d] 47)).drew nL 37 #[.slice A0 k0 c0, .slice A1 k1 c1, .slice A2 k2 c2, .slice A3 k3 c3, .slice A4 k4 c4, .int .i64 t0, .int .i64 t1, .int .i64 t2, .int .i64 t3, .int .i64 t4] ∧ Row (W0.alloc (.cells #[.int .i64 x0, .int .i64 d] 47)).drew n0 41 (tcells a b c d e (.slice (some ⟨bt, ot, none⟩) tr.length ct)) ∧ Row (W0.alloc (.cells #[.int .i64 x0, .int .i64 d] 47)).drew n1 47 #[.int .i64 0, .int .i64 0] ∧ Row (W0.alloc (.cells #[.int .i64 x0, .int .i64 d] 47)).drew n2 47 #[.int .i64 x0, .int .i64 d]) :=
      ⟨(HB0.out.trans (hba.mono (by have := HN.out; omega))).drew, HRL.out.alloc (.cells #[.int .i64 x0, .int .i64 d] 47), HRW.out.alloc (.cells #[.int .i64 x0, .int .i64 d] 47), HRO.out.alloc (.cells #[.int .i64 x0, .int .i64 d] 47), hrn⟩
    clear hba hrn
    go_region_held3 (fun w' => w'.cell? ⟨n0, 3, none⟩ = some (.int .i64 d) ∧ w'.cell? ⟨n0, 5, none⟩ = some (.slice (some ⟨bt, ot, none⟩) tr.length ct) ∧ w'.cell? ⟨bt, ot, none⟩ = some (.int .i64 x0)) (first | (with_reducible assumption) | exact s0 | go_keep) (fail)
    all_goals (refine hK _ _ (Met.intro (hJ _ _ ?_)); (repeat apply Exists.intro); refine ⟨?rel, rfl⟩; case rel => exact ⟨rfl, HC.out⟩)
  case rest =>
  obtain ⟨rfl, HC⟩ := hcut
  clear e3 e5 q0 HB0 HRL HRW HRO hsz
  obtain ⟨W1, hW1⟩ : ∃ W, W = wc := ⟨_, rfl⟩
  subst hW1
  have HB2 := Lib.hid HC.out.1; have HRL2 := Lib.hid HC.out.2.1; have HRW2 := Lib.hid HC.out.2.2.1; have HRO2 := Lib.hid HC.out.2.2.2.1; have HRN2 := Lib.hid HC.out.2.2.2.2
  clear HC
  have e1 := HRW2.out.cell 1; have e4 := HRW2.out.cell 4
  simp only [List.getElem?_toArray, List.getElem?_cons_zero, List.getElem?_cons_succ] at e1 e4
  have hq1 := HWQ.out.1; have hq2 := HWQ.out.2.1; have hq3 := HWQ.out.2.2
  go_upto_region 6 with (fail)
  clear e1 e4 hq1 hq2 hq3 HWQ hx1
  generalize sp * Dd - e = m0 at *
  obtain ⟨i3, hi3, hz30, hz31, hz32⟩ := info_parts Try.info3n
  go_wp2_with fail
  go_loopw [12, 14] (fun t k9 wr => ∃ (acc : List Int) (e1 e2 m : Int), k9 = .int .i64 m ∧ Hid (GoSt L R tr r (e1, e2) m acc ∧ wr.ownsRow nL 3 1 t acc.length (ivals acc) ∧ Below nL w wr ∧ Row wr n2 47 #[.int .i64 e1, .int .i64 e2] ∧ Row wr n1 47 #[.int .i64 0, .int .i64 0] ∧ Row wr n0 41 (tcells a b c d e (.slice (some ⟨bt, ot, none⟩) tr.length ct)) ∧ Row wr nL 37 #[.slice A0 k0 c0, .slice A1 k1 c1, .slice A2 k2 c2, .slice A3 k3 c3, .slice A4 k4 c4, .int .i64 t0, .int .i64 t1, .int .i64 t2, .int .i64 t3, .int .i64 t4] ∧ m ≤ 1000000000000000000)) (fun t k9 _ => (intOf k9).toNat)
  case atStart => exact ⟨[], x0, d, m0, rfl, HG.out, World.ownsRow_nil _ _ _ _, HB2.out, HRN2.out, HRO2.out, HRW2.out, HRL2.out, HMB.out⟩
  case round =>
    obtain ⟨acc, e1, e2, m, rfl, HJ⟩ := hrel
    obtain ⟨Ac, cc, hvt⟩ := own_slice HJ.out.2.1
    subst hvt
    clear HG HB2 HRL2 HRW2 HRO2 HRN2 HMB
    have HB := Lib.hid HJ.out.2.2.1; have HA := Lib.hid HJ.out.2.1; have HE := Lib.hid HJ.out.2.2.2.1; have HO := Lib.hid HJ.out.2.2.2.2.1; have HW := Lib.hid HJ.out.2.2.2.2.2.1; have HL0 := Lib.hid HJ.out.2.2.2.2.2.2.1; have HM := Lib.hid HJ.out.2.2.2.2.2.2.2; have HG := Lib.hid HJ.out.1
    clear HJ
    by_cases hm : 0 < m
    · have hsz : acc.length ≤ 100 := by have := HG.out.len; have := HL.out.s; omega
      have f0 := HE.out.cell 0; have f1 := HE.out.cell 1
      simp only [List.getElem?_toArray, List.getElem?_cons_zero, List.getElem?_cons_succ] at f0 f1
      have p0 := HL0.out.cell 0; have p1 := HL0.out.cell 1; have p2 := HL0.out.cell 2; have p3 := HL0.out.cell 3; have p4 := HL0.out.cell 4; have p5 := HL0.out.cell 5; have p6 := HL0.out.cell 6; have p7 := HL0.out.cell 7; have p8 := HL0.out.cell 8; have p9 := HL0.out.cell 9
      simp only [List.getElem?_toArray, List.getElem?_cons_zero, List.getElem?_cons_succ] at p0 p1 p2 p3 p4 p5 p6 p7 p8 p9
      go_wp2_with fail
      refine (refNext_any wr D _ L e1 e2 AR cR R (HI.out.keep HB.out hDN) (by have := HB.out.size; have := HN.out; omega) HL.out ((HRT.out.below HB.out (Nat.le_refl _)).mono (by have := HB.out.size; have := HN.out; omega) (fun _ _ => rfl))).mono ?_; rintro x w1 ⟨rfl, hb1⟩
      clear p0 p1 p2 p3 p4 p5 p6 p7 p8 p9
      rw [← next_eq]
      obtain ⟨nx, hnx⟩ : ∃ nx, nextL L (e1, e2) R = nx := ⟨_, rfl⟩
      rw [hnx]
      obtain ⟨y, hy⟩ : ∃ y, nx.getD (0, 0) = y := ⟨_, rfl⟩
      rw [hy]
      obtain ⟨y0, y1⟩ := y
      simp only
      have hba := hb1.alloc hb1.size (.cells #[.int .i64 y0, .int .i64 y1] 47)
      have HB1 : Hid (Below nL w (w1.alloc (.cells #[.int .i64 y0, .int .i64 y1] 47))) := HB.out.trans (hba.mono (by have := HB.out.size; have := HN.out; omega))
      have HA1 := Lib.hid (own_below HA.out hba)
      have HE1 := Lib.hid (Below.row hba HE.out HE.out.lt)
      have HO1 := Lib.hid (Below.row hba HO.out HO.out.lt)
      have HW1 := Lib.hid (Below.row hba HW.out HW.out.lt)
      have HL1 := Lib.hid (Below.row hba HL0.out HL0.out.lt)
      have HEL : Hid (n2 < w1.heap.size) := by have h1 := HE.out.lt; have h2 := hb1.size; show _ < _; omega
      have HY1 := Lib.hid (Row.new w1 47 #[.int .i64 y0, .int .i64 y1])
      have HNX := Lib.hid hnx
      have HYY := Lib.hid hy
      clear hb1 hba f0 f1 HB HA HE HO HW HL0 hnx hy
      cases hnx : nx with
      | none =>
        have HRR : Hid (r = (acc, (e1, e2))) := HG.out.none hm (by rw [HNX.out, hnx])
        simp only [Option.isSome]
        clear hnx HNX HYY
        go_upto_region 8 with (fail)
        clear HY1
        generalize w1.alloc (.cells #[.int .i64 y0, .int .i64 y1] 47) = w2 at *
        have HE := Lib.hid HE1.out; have HO := Lib.hid HO1.out; have HA := Lib.hid HA1.out; have HB := Lib.hid HB1.out; have HW := Lib.hid HW1.out
        go_wp2_with fail
        refine (refBack_any w2 _ _ acc (Rd.of_own HA.out) (by omega)).mono ?_; rintro x wb ⟨vb, rfl, hob, hbb⟩
        obtain ⟨Ab, cb, hvb⟩ := own_slice hob
        subst hvb
        have HBb : Hid (Below nL w wb) := HB.out.trans (hbb.mono (by have := HB.out.size; have := HN.out; omega))
        have HOb := Lib.hid (Below.row hbb HO.out HO.out.lt)
        have HEb := Lib.hid (Below.row hbb HE.out HE.out.lt)
        have HWb := Lib.hid (Below.row hbb HW.out HW.out.lt)
        have HAb : Hid (wb.ownsRow nL 3 1 (.slice Ab acc.reverse.length cb) acc.reverse.length (ivals acc.reverse)) := own_base hob (by have := HB.out.size; have := HN.out; omega)
        obtain ⟨s, hs⟩ : ∃ s, acc.reverse ++ tr = s := ⟨_, rfl⟩
        have HSS : Hid (acc.reverse ++ tr = s ∧ acc.reverse.length ≤ 100) := ⟨hs, by rw [List.length_reverse]; exact hsz⟩
        clear hob hbb HB HO HE HW HA hs
        obtain ⟨er, her⟩ : ∃ q, acc.reverse = q := ⟨_, rfl⟩
        rw [her] at HAb HSS ⊢
        have HER := Lib.hid her
        clear her
        go_upto_region 13 with (fail)
        have d1 : wb.drew.cell? ⟨n0, 5, none⟩ = some (.slice (some ⟨bt, ot, none⟩) tr.length ct) := by have := HWb.out.cell 5; simpa using this
        have d2 : wb.drew.cell? ⟨n2, 0, none⟩ = some (.int .i64 e1) := by have := HEb.out.cell 0; simpa using this
        have d3 : wb.drew.cell? ⟨n2, 1, none⟩ = some (.int .i64 e2) := by have := HEb.out.cell 1; simpa using this
        refine AnyBut.region (fun w' => w'.cell? ⟨n0, 5, none⟩ = some (.slice (some ⟨bt, ot, none⟩) tr.length ct) ∧ w'.cell? ⟨n2, 0, none⟩ = some (.int .i64 e1) ∧ w'.cell? ⟨n2, 1, none⟩ = some (.int .i64 e2)) 6 (by kernel_rfl) ?_
        change AnyBut _ _ _ _ _ _ _ _ _ wb.drew
        have HBd : Hid (Below nL w wb.drew) := HBb.out.drew
        have HOd : Hid (Row wb.drew n1 47 #[.int .i64 0, .int .i64 0]) := HOb.out
        have HEd : Hid (Row wb.drew n2 47 #[.int .i64 e1, .int .i64 e2]) := HEb.out
        have HWd : Hid (Row wb.drew n0 41 (tcells a b c d e (.slice (some ⟨bt, ot, none⟩) tr.length ct))) := HWb.out
        have HAd : Hid (wb.drew.ownsRow nL 3 1 (.slice Ab er.length cb) er.length (ivals er)) := HAb.out
        have HTd : Hid (Rd wb.drew wb.drew.heap.size (.slice (some ⟨bt, ot, none⟩) tr.length ct) (ivals tr)) := (HTR.out.below HBd.out (Nat.le_refl _)).mono (by have := HBd.out.size; have := HN.out; omega) (fun _ _ => rfl)
        clear HBb HOb HEb HWb HAb
        generalize wb.drew = wd at *
        refine AnyBut.take 0 rfl (by kernel_rfl) (by kernel_rfl) (by kernel_rfl) (by kernel_rfl) (by decide) (fun _ _ _ h => h) (yields_of (by rfl) (fun w9 hS => (by obtain ⟨s1, s2, s3⟩ := hS; go_simp; try rfl))) ⟨d1, d2, d3⟩ ?_
        refine AnyBut.take 1 rfl (by kernel_rfl) (by kernel_rfl) (by kernel_rfl) (by kernel_rfl) (by decide) (fun _ _ _ h => h) (yields_of (by rfl) (fun w9 hS => (by obtain ⟨s1, s2, s3⟩ := hS; go_simp; try rfl))) ⟨d1, d2, d3⟩ ?_
        refine AnyBut.take 2 rfl (by kernel_rfl) (by kernel_rfl) (by kernel_rfl) (by kernel_rfl) (by decide) (fun _ _ _ h => h) (yields_of (by rfl) (fun w9 hS => (by obtain ⟨s1, s2, s3⟩ := hS; go_simp; try rfl))) ⟨d1, d2, d3⟩ ?_
        refine AnyBut.take 4 rfl (by kernel_rfl) (by kernel_rfl) (by kernel_rfl) (by kernel_rfl) (by decide) (fun _ _ _ h => h) (yields_of (by rfl) (fun w9 hS => (by obtain ⟨s1, s2, s3⟩ := hS; go_simp; try rfl))) ⟨d1, d2, d3⟩ ?_
        clear d1 d2 d3
        refine AnyBut.one 3 rfl (by kernel_rfl) (by rfl) ?_
        refine wp_append_lies wd (.tmp 82) (.tmp 84) 38 rfl nL 3 i3 (.int .i64 0) 1 8 Try.underlying38 hi3 hz30 hz31 hz32 rfl (by decide) (.slice Ab er.length cb) er.length (ivals er) (by rfl) HAd.out ⟨bt, ot, none⟩ tr.length ct (ivals tr) (by rfl) (by rw [ivals_length, Nat.mul_one]) (fun j u hu => HTd.out.cells j u hu) (ivals_one tr) (by omega) (by have := HSS.out.2; unfold maxLen; omega) (by have := HSS.out.2; omega) (by have := HBd.out.size; have := HN.out; omega) wd.heap.size rfl ?_
        intro g5 c5 w5 hown5 hgrow5 _ _
        rw [ivals_app, HSS.out.1] at hown5
        have hl5 : er.length + tr.length = s.length := by rw [← HSS.out.1, List.length_append]
        rw [hl5] at hown5 ⊢
        have HO5 := Lib.hid (HOd.out.grown hgrow5 (own_ne HAd.out HOd.out (by decide)))
        have HE5 := Lib.hid (HEd.out.grown hgrow5 (own_ne HAd.out HEd.out (by decide)))
        have HW5 := Lib.hid (HWd.out.grown hgrow5 (own_ne HAd.out HWd.out (by decide)))
        have HB5 : Hid (Below nL w w5) := HBd.out.grown hgrow5 (by have := HBd.out.size; have := HN.out; omega) (fun kk hk => (HAd.out.lt kk hk).1)
        have HA5 := Lib.hid hown5
        clear hown5 hgrow5 HOd HEd HWd HBd HAd HTd
        have o0 := HO5.out.cell 0; have o1 := HO5.out.cell 1; have z0 := HO5.out.frozen 0; have z1 := HO5.out.frozen 1; have x5 := HW5.out.cell 5; have f0 := HE5.out.cell 0; have f1 := HE5.out.cell 1
        simp only [List.getElem?_toArray, List.getElem?_cons_zero, List.getElem?_cons_succ] at o0 o1 x5 f0 f1
        refine ⟨fun _ => ⟨x5, f0, f1⟩, ?_⟩
        refine AnyBut.one 5 rfl (by kernel_rfl) (by rfl) ?_
        go_simp
        refine AnyBut.one 6 rfl (by kernel_rfl) (by rfl) ?_
        go_simp
        refine AnyBut.done (by kernel_rfl) ?_
        go_wp2_with fail
        have r1 : Row (w5.setCell ⟨n1, 0, none⟩ (.int .i64 e1)) n1 47 #[.int .i64 e1, .int .i64 0] := HO5.out.set 0 _
        have r2 : Row ((w5.setCell ⟨n1, 0, none⟩ (.int .i64 e1)).setCell ⟨n1, 1, none⟩ (.int .i64 e2)) n1 47 #[.int .i64 e1, .int .i64 e2] := r1.set 1 _
        refine bodyPost_ret (results_tmp_cell_row rfl _ _ n1 47 #[.int .i64 e1, .int .i64 e2] (0, 0) _ rfl r2 Try.underlying47 rfl Try.size47) rfl ?_
        have hn := HN.out
        rw [HRR.out]
        simp only
        rw [HER.out, HSS.out.1]
        have hfar := own_ne HA5.out HO5.out (by decide)
        refine ⟨_, rfl, ?_, ?_⟩
        · rw [← hn.1]; exact own_far (own_far HA5.out (fun e => hfar e.symm) _) (fun e => hfar e.symm) _
        · rw [← hn.1]; exact (HB5.out.setCell (p := ⟨n1, 0, none⟩) (by show nL ≤ n1; omega) _).setCell (p := ⟨n1, 1, none⟩) (by show nL ≤ n1; omega) _
      | some z =>
        have hz : z = (y0, y1) := by rw [← HYY.out, hnx]; rfl
        subst hz
        have HNS : Hid (nextL L (e1, e2) R = some (y0, y1)) := by show _ = _; rw [HNX.out, hnx]
        simp only [Option.isSome]
        clear hnx HNX HYY
        go_upto_region 8 with (fail)
        obtain ⟨ny, hny⟩ : ∃ n, n = w1.heap.size := ⟨_, rfl⟩
        rw [← hny] at HY1 ⊢
        have HNY : Hid (n2 < ny) := by have h := HE1.out.lt; rw [World.size_alloc] at h; show n2 < ny; have := HEL.out; omega
        clear hny
        generalize w1.alloc (.cells #[.int .i64 y0, .int .i64 y1] 47) = w2 at *
        have x5 := HW1.out.cell 5; have y0c := HY1.out.cell 0
        simp only [List.getElem?_toArray, List.getElem?_cons_zero, List.getElem?_cons_succ] at x5 y0c
        go_wp2_with fail
        refine (refHas_any w2 w2.heap.size _ tr y0 ((HTR.out.below HB1.out (Nat.le_refl _)).mono (by have := HB1.out.size; have := HN.out; omega) (fun _ _ => rfl)) (by omega)).mono ?_; rintro x w3 ⟨rfl, rfl⟩
        cases hc1 : tr.contains y0 with
        | true =>
          have HRR : Hid (r = (acc, (e1, e2))) := HG.out.seen hm HNS.out (by simp only; rw [hc1]; rfl)
          clear hc1
          clear x5 y0c
          have HE := Lib.hid HE1.out; have HO := Lib.hid HO1.out; have HA := Lib.hid HA1.out; have HB := Lib.hid HB1.out; have HW := Lib.hid HW1.out
          go_wp2_with fail
          refine (refBack_any w2 _ _ acc (Rd.of_own HA.out) (by omega)).mono ?_; rintro x wb ⟨vb, rfl, hob, hbb⟩
          obtain ⟨Ab, cb, hvb⟩ := own_slice hob
          subst hvb
          have HBb : Hid (Below nL w wb) := HB.out.trans (hbb.mono (by have := HB.out.size; have := HN.out; omega))
          have HOb := Lib.hid (Below.row hbb HO.out HO.out.lt)
          have HEb := Lib.hid (Below.row hbb HE.out HE.out.lt)
          have HWb := Lib.hid (Below.row hbb HW.out HW.out.lt)
          have HAb : Hid (wb.ownsRow nL 3 1 (.slice Ab acc.reverse.length cb) acc.reverse.length (ivals acc.reverse)) := own_base hob (by have := HB.out.size; have := HN.out; omega)
          obtain ⟨s, hs⟩ : ∃ s, acc.reverse ++ tr = s := ⟨_, rfl⟩
          have HSS : Hid (acc.reverse ++ tr = s ∧ acc.reverse.length ≤ 100) := ⟨hs, by rw [List.length_reverse]; exact hsz⟩
          clear hob hbb HB HO HE HW HA hs
          obtain ⟨er, her⟩ : ∃ q, acc.reverse = q := ⟨_, rfl⟩
          rw [her] at HAb HSS ⊢
          have HER := Lib.hid her
          clear her
          go_upto_region 13 with (fail)
          have d1 : wb.drew.cell? ⟨n0, 5, none⟩ = some (.slice (some ⟨bt, ot, none⟩) tr.length ct) := by have := HWb.out.cell 5; simpa using this
          have d2 : wb.drew.cell? ⟨n2, 0, none⟩ = some (.int .i64 e1) := by have := HEb.out.cell 0; simpa using this
          have d3 : wb.drew.cell? ⟨n2, 1, none⟩ = some (.int .i64 e2) := by have := HEb.out.cell 1; simpa using this
          refine AnyBut.region (fun w' => w'.cell? ⟨n0, 5, none⟩ = some (.slice (some ⟨bt, ot, none⟩) tr.length ct) ∧ w'.cell? ⟨n2, 0, none⟩ = some (.int .i64 e1) ∧ w'.cell? ⟨n2, 1, none⟩ = some (.int .i64 e2)) 6 (by kernel_rfl) ?_
          change AnyBut _ _ _ _ _ _ _ _ _ wb.drew
          have HBd : Hid (Below nL w wb.drew) := HBb.out.drew
          have HOd : Hid (Row wb.drew n1 47 #[.int .i64 0, .int .i64 0]) := HOb.out
          have HEd : Hid (Row wb.drew n2 47 #[.int .i64 e1, .int .i64 e2]) := HEb.out
          have HWd : Hid (Row wb.drew n0 41 (tcells a b c d e (.slice (some ⟨bt, ot, none⟩) tr.length ct))) := HWb.out
          have HAd : Hid (wb.drew.ownsRow nL 3 1 (.slice Ab er.length cb) er.length (ivals er)) := HAb.out
          have HTd : Hid (Rd wb.drew wb.drew.heap.size (.slice (some ⟨bt, ot, none⟩) tr.length ct) (ivals tr)) := (HTR.out.below HBd.out (Nat.le_refl _)).mono (by have := HBd.out.size; have := HN.out; omega) (fun _ _ => rfl)
          clear HBb HOb HEb HWb HAb
          generalize wb.drew = wd at *
          refine AnyBut.take 0 rfl (by kernel_rfl) (by kernel_rfl) (by kernel_rfl) (by kernel_rfl) (by decide) (fun _ _ _ h => h) (yields_of (by rfl) (fun w9 hS => (by obtain ⟨s1, s2, s3⟩ := hS; go_simp; try rfl))) ⟨d1, d2, d3⟩ ?_
          refine AnyBut.take 1 rfl (by kernel_rfl) (by kernel_rfl) (by kernel_rfl) (by kernel_rfl) (by decide) (fun _ _ _ h => h) (yields_of (by rfl) (fun w9 hS => (by obtain ⟨s1, s2, s3⟩ := hS; go_simp; try rfl))) ⟨d1, d2, d3⟩ ?_
          refine AnyBut.take 2 rfl (by kernel_rfl) (by kernel_rfl) (by kernel_rfl) (by kernel_rfl) (by decide) (fun _ _ _ h => h) (yields_of (by rfl) (fun w9 hS => (by obtain ⟨s1, s2, s3⟩ := hS; go_simp; try rfl))) ⟨d1, d2, d3⟩ ?_
          refine AnyBut.take 4 rfl (by kernel_rfl) (by kernel_rfl) (by kernel_rfl) (by kernel_rfl) (by decide) (fun _ _ _ h => h) (yields_of (by rfl) (fun w9 hS => (by obtain ⟨s1, s2, s3⟩ := hS; go_simp; try rfl))) ⟨d1, d2, d3⟩ ?_
          clear d1 d2 d3
          refine AnyBut.one 3 rfl (by kernel_rfl) (by rfl) ?_
          refine wp_append_lies wd (.tmp 82) (.tmp 84) 38 rfl nL 3 i3 (.int .i64 0) 1 8 Try.underlying38 hi3 hz30 hz31 hz32 rfl (by decide) (.slice Ab er.length cb) er.length (ivals er) (by rfl) HAd.out ⟨bt, ot, none⟩ tr.length ct (ivals tr) (by rfl) (by rw [ivals_length, Nat.mul_one]) (fun j u hu => HTd.out.cells j u hu) (ivals_one tr) (by omega) (by have := HSS.out.2; unfold maxLen; omega) (by have := HSS.out.2; omega) (by have := HBd.out.size; have := HN.out; omega) wd.heap.size rfl ?_
          intro g5 c5 w5 hown5 hgrow5 _ _
          rw [ivals_app, HSS.out.1] at hown5
          have hl5 : er.length + tr.length = s.length := by rw [← HSS.out.1, List.length_append]
          rw [hl5] at hown5 ⊢
          have HO5 := Lib.hid (HOd.out.grown hgrow5 (own_ne HAd.out HOd.out (by decide)))
          have HE5 := Lib.hid (HEd.out.grown hgrow5 (own_ne HAd.out HEd.out (by decide)))
          have HW5 := Lib.hid (HWd.out.grown hgrow5 (own_ne HAd.out HWd.out (by decide)))
          have HB5 : Hid (Below nL w w5) := HBd.out.grown hgrow5 (by have := HBd.out.size; have := HN.out; omega) (fun kk hk => (HAd.out.lt kk hk).1)
          have HA5 := Lib.hid hown5
          clear hown5 hgrow5 HOd HEd HWd HBd HAd HTd
          have o0 := HO5.out.cell 0; have o1 := HO5.out.cell 1; have z0 := HO5.out.frozen 0; have z1 := HO5.out.frozen 1; have x5 := HW5.out.cell 5; have f0 := HE5.out.cell 0; have f1 := HE5.out.cell 1
          simp only [List.getElem?_toArray, List.getElem?_cons_zero, List.getElem?_cons_succ] at o0 o1 x5 f0 f1
          refine ⟨fun _ => ⟨x5, f0, f1⟩, ?_⟩
          refine AnyBut.one 5 rfl (by kernel_rfl) (by rfl) ?_
          go_simp
          refine AnyBut.one 6 rfl (by kernel_rfl) (by rfl) ?_
          go_simp
          refine AnyBut.done (by kernel_rfl) ?_
          go_wp2_with fail
          have r1 : Row (w5.setCell ⟨n1, 0, none⟩ (.int .i64 e1)) n1 47 #[.int .i64 e1, .int .i64 0] := HO5.out.set 0 _
          have r2 : Row ((w5.setCell ⟨n1, 0, none⟩ (.int .i64 e1)).setCell ⟨n1, 1, none⟩ (.int .i64 e2)) n1 47 #[.int .i64 e1, .int .i64 e2] := r1.set 1 _
          refine bodyPost_ret (results_tmp_cell_row rfl _ _ n1 47 #[.int .i64 e1, .int .i64 e2] (0, 0) _ rfl r2 Try.underlying47 rfl Try.size47) rfl ?_
          have hn := HN.out
          rw [HRR.out]
          simp only
          rw [HER.out, HSS.out.1]
          have hfar := own_ne HA5.out HO5.out (by decide)
          refine ⟨_, rfl, ?_, ?_⟩
          · rw [← hn.1]; exact own_far (own_far HA5.out (fun e => hfar e.symm) _) (fun e => hfar e.symm) _
          · rw [← hn.1]; exact (HB5.out.setCell (p := ⟨n1, 0, none⟩) (by show nL ≤ n1; omega) _).setCell (p := ⟨n1, 1, none⟩) (by show nL ≤ n1; omega) _
        | false =>
          have HC1 := Lib.hid hc1
          clear hc1
          go_wp2_with fail
          refine (refHas_any w2 w2.heap.size _ acc y0 (Rd.of_own HA1.out) (by omega)).mono ?_; rintro x w3 ⟨rfl, rfl⟩
          cases hc2 : acc.contains y0 with
          | true =>
            have HRR : Hid (r = (acc, (e1, e2))) := HG.out.seen hm HNS.out (by simp only; rw [hc2, Bool.or_true])
            clear hc2
            clear x5 y0c
            have HE := Lib.hid HE1.out; have HO := Lib.hid HO1.out; have HA := Lib.hid HA1.out; have HB := Lib.hid HB1.out; have HW := Lib.hid HW1.out
            go_wp2_with fail
            refine (refBack_any w2 _ _ acc (Rd.of_own HA.out) (by omega)).mono ?_; rintro x wb ⟨vb, rfl, hob, hbb⟩
            obtain ⟨Ab, cb, hvb⟩ := own_slice hob
            subst hvb
            have HBb : Hid (Below nL w wb) := HB.out.trans (hbb.mono (by have := HB.out.size; have := HN.out; omega))
            have HOb := Lib.hid (Below.row hbb HO.out HO.out.lt)
            have HEb := Lib.hid (Below.row hbb HE.out HE.out.lt)
            have HWb := Lib.hid (Below.row hbb HW.out HW.out.lt)
            have HAb : Hid (wb.ownsRow nL 3 1 (.slice Ab acc.reverse.length cb) acc.reverse.length (ivals acc.reverse)) := own_base hob (by have := HB.out.size; have := HN.out; omega)
            obtain ⟨s, hs⟩ : ∃ s, acc.reverse ++ tr = s := ⟨_, rfl⟩
            have HSS : Hid (acc.reverse ++ tr = s ∧ acc.reverse.length ≤ 100) := ⟨hs, by rw [List.length_reverse]; exact hsz⟩
            clear hob hbb HB HO HE HW HA hs
            obtain ⟨er, her⟩ : ∃ q, acc.reverse = q := ⟨_, rfl⟩
            rw [her] at HAb HSS ⊢
            have HER := Lib.hid her
            clear her
            go_upto_region 13 with (fail)
            have d1 : wb.drew.cell? ⟨n0, 5, none⟩ = some (.slice (some ⟨bt, ot, none⟩) tr.length ct) := by have := HWb.out.cell 5; simpa using this
            have d2 : wb.drew.cell? ⟨n2, 0, none⟩ = some (.int .i64 e1) := by have := HEb.out.cell 0; simpa using this
            have d3 : wb.drew.cell? ⟨n2, 1, none⟩ = some (.int .i64 e2) := by have := HEb.out.cell 1; simpa using this
            refine AnyBut.region (fun w' => w'.cell? ⟨n0, 5, none⟩ = some (.slice (some ⟨bt, ot, none⟩) tr.length ct) ∧ w'.cell? ⟨n2, 0, none⟩ = some (.int .i64 e1) ∧ w'.cell? ⟨n2, 1, none⟩ = some (.int .i64 e2)) 6 (by kernel_rfl) ?_
            change AnyBut _ _ _ _ _ _ _ _ _ wb.drew
            have HBd : Hid (Below nL w wb.drew) := HBb.out.drew
            have HOd : Hid (Row wb.drew n1 47 #[.int .i64 0, .int .i64 0]) := HOb.out
            have HEd : Hid (Row wb.drew n2 47 #[.int .i64 e1, .int .i64 e2]) := HEb.out
            have HWd : Hid (Row wb.drew n0 41 (tcells a b c d e (.slice (some ⟨bt, ot, none⟩) tr.length ct))) := HWb.out
            have HAd : Hid (wb.drew.ownsRow nL 3 1 (.slice Ab er.length cb) er.length (ivals er)) := HAb.out
            have HTd : Hid (Rd wb.drew wb.drew.heap.size (.slice (some ⟨bt, ot, none⟩) tr.length ct) (ivals tr)) := (HTR.out.below HBd.out (Nat.le_refl _)).mono (by have := HBd.out.size; have := HN.out; omega) (fun _ _ => rfl)
            clear HBb HOb HEb HWb HAb
            generalize wb.drew = wd at *
            refine AnyBut.take 0 rfl (by kernel_rfl) (by kernel_rfl) (by kernel_rfl) (by kernel_rfl) (by decide) (fun _ _ _ h => h) (yields_of (by rfl) (fun w9 hS => (by obtain ⟨s1, s2, s3⟩ := hS; go_simp; try rfl))) ⟨d1, d2, d3⟩ ?_
            refine AnyBut.take 1 rfl (by kernel_rfl) (by kernel_rfl) (by kernel_rfl) (by kernel_rfl) (by decide) (fun _ _ _ h => h) (yields_of (by rfl) (fun w9 hS => (by obtain ⟨s1, s2, s3⟩ := hS; go_simp; try rfl))) ⟨d1, d2, d3⟩ ?_
            refine AnyBut.take 2 rfl (by kernel_rfl) (by kernel_rfl) (by kernel_rfl) (by kernel_rfl) (by decide) (fun _ _ _ h => h) (yields_of (by rfl) (fun w9 hS => (by obtain ⟨s1, s2, s3⟩ := hS; go_simp; try rfl))) ⟨d1, d2, d3⟩ ?_
            refine AnyBut.take 4 rfl (by kernel_rfl) (by kernel_rfl) (by kernel_rfl) (by kernel_rfl) (by decide) (fun _ _ _ h => h) (yields_of (by rfl) (fun w9 hS => (by obtain ⟨s1, s2, s3⟩ := hS; go_simp; try rfl))) ⟨d1, d2, d3⟩ ?_
            clear d1 d2 d3
            refine AnyBut.one 3 rfl (by kernel_rfl) (by rfl) ?_
            refine wp_append_lies wd (.tmp 82) (.tmp 84) 38 rfl nL 3 i3 (.int .i64 0) 1 8 Try.underlying38 hi3 hz30 hz31 hz32 rfl (by decide) (.slice Ab er.length cb) er.length (ivals er) (by rfl) HAd.out ⟨bt, ot, none⟩ tr.length ct (ivals tr) (by rfl) (by rw [ivals_length, Nat.mul_one]) (fun j u hu => HTd.out.cells j u hu) (ivals_one tr) (by omega) (by have := HSS.out.2; unfold maxLen; omega) (by have := HSS.out.2; omega) (by have := HBd.out.size; have := HN.out; omega) wd.heap.size rfl ?_
            intro g5 c5 w5 hown5 hgrow5 _ _
            rw [ivals_app, HSS.out.1] at hown5
            have hl5 : er.length + tr.length = s.length := by rw [← HSS.out.1, List.length_append]
            rw [hl5] at hown5 ⊢
            have HO5 := Lib.hid (HOd.out.grown hgrow5 (own_ne HAd.out HOd.out (by decide)))
            have HE5 := Lib.hid (HEd.out.grown hgrow5 (own_ne HAd.out HEd.out (by decide)))
            have HW5 := Lib.hid (HWd.out.grown hgrow5 (own_ne HAd.out HWd.out (by decide)))
            have HB5 : Hid (Below nL w w5) := HBd.out.grown hgrow5 (by have := HBd.out.size; have := HN.out; omega) (fun kk hk => (HAd.out.lt kk hk).1)
            have HA5 := Lib.hid hown5
            clear hown5 hgrow5 HOd HEd HWd HBd HAd HTd
            have o0 := HO5.out.cell 0; have o1 := HO5.out.cell 1; have z0 := HO5.out.frozen 0; have z1 := HO5.out.frozen 1; have x5 := HW5.out.cell 5; have f0 := HE5.out.cell 0; have f1 := HE5.out.cell 1
            simp only [List.getElem?_toArray, List.getElem?_cons_zero, List.getElem?_cons_succ] at o0 o1 x5 f0 f1
            refine ⟨fun _ => ⟨x5, f0, f1⟩, ?_⟩
            refine AnyBut.one 5 rfl (by kernel_rfl) (by rfl) ?_
            go_simp
            refine AnyBut.one 6 rfl (by kernel_rfl) (by rfl) ?_
            go_simp
            refine AnyBut.done (by kernel_rfl) ?_
            go_wp2_with fail
            have r1 : Row (w5.setCell ⟨n1, 0, none⟩ (.int .i64 e1)) n1 47 #[.int .i64 e1, .int .i64 0] := HO5.out.set 0 _
            have r2 : Row ((w5.setCell ⟨n1, 0, none⟩ (.int .i64 e1)).setCell ⟨n1, 1, none⟩ (.int .i64 e2)) n1 47 #[.int .i64 e1, .int .i64 e2] := r1.set 1 _
            refine bodyPost_ret (results_tmp_cell_row rfl _ _ n1 47 #[.int .i64 e1, .int .i64 e2] (0, 0) _ rfl r2 Try.underlying47 rfl Try.size47) rfl ?_
            have hn := HN.out
            rw [HRR.out]
            simp only
            rw [HER.out, HSS.out.1]
            have hfar := own_ne HA5.out HO5.out (by decide)
            refine ⟨_, rfl, ?_, ?_⟩
            · rw [← hn.1]; exact own_far (own_far HA5.out (fun e => hfar e.symm) _) (fun e => hfar e.symm) _
            · rw [← hn.1]; exact (HB5.out.setCell (p := ⟨n1, 0, none⟩) (by show nL ≤ n1; omega) _).setCell (p := ⟨n1, 1, none⟩) (by show nL ≤ n1; omega) _
          | false =>
            have hst := HG.out.step HT.out hm HNS.out HC1.out hc2
            simp only at hst
            have HST := Lib.hid hst.1
            have HIN := Lib.hid hst.2
            clear hc2 hst HC1 HNS HG
            have HSN : Hid (ivals acc ++ [.int .i64 y0] = ivals (acc ++ [y0]) ∧ (acc ++ [y0]).length = acc.length + 1) := ⟨ivals_snoc' acc y0, by simp⟩
            go_wp2_with (at_builtin; refine wpList_append_own _ rfl (.tmp 63) (.tmp 66) 38 rfl nL 3 i3 (.int .i64 0) 1 8 Try.underlying38 hi3 hz30 hz31 hz32 rfl (by decide) _ _ _ rfl (HA1.out.alloc _) ⟨w2.heap.size, 0, none⟩ 1 1 [.int .i64 y0] rfl rfl (one_new w2 3 _) (one_cell rfl) (by unfold maxLen; omega) (by omega) (by have := HB1.out.size; have := HN.out; simp; omega) ?_)
            intro v7 w7 hown7 hgrow7 _
            rw [HSN.out.1] at hown7
            have hba : Below nL w (w2.alloc (.cells #[.int .i64 y0] 3)) := HB1.out.alloc (by have := HB1.out.size; have := HN.out; omega) _
            have HB7 : Hid (Below nL w w7) := hba.grown hgrow7 (by have := hba.size; have := HN.out; omega) (fun kk hk => (HA1.out.lt kk hk).1)
            have HL7 := Lib.hid ((HL1.out.alloc (.cells #[.int .i64 y0] 3)).grown hgrow7 (own_ne HA1.out HL1.out (by decide)))
            have HE7 : Hid (Row w7 n2 47 #[.int .i64 e1, .int .i64 e2]) := (HE1.out.alloc _).grown hgrow7 (own_ne HA1.out HE1.out (by decide))
            have HO7 : Hid (Row w7 n1 47 #[.int .i64 0, .int .i64 0]) := (HO1.out.alloc _).grown hgrow7 (own_ne HA1.out HO1.out (by decide))
            have HW7 := Lib.hid ((HW1.out.alloc (.cells #[.int .i64 y0] 3)).grown hgrow7 (own_ne HA1.out HW1.out (by decide)))
            have HY7 : Hid (Row w7 ny 47 #[.int .i64 y0, .int .i64 y1]) := (HY1.out.alloc _).grown hgrow7 (own_ne HA1.out HY1.out (by decide))
            have HA7 : Hid (w7.ownsRow nL 3 1 v7 (acc ++ [y0]).length (ivals (acc ++ [y0]))) := by rw [HSN.out.2]; exact hown7
            obtain ⟨A8, c8, hv8⟩ := own_slice hown7
            subst hv8
            clear hown7 hgrow7 hba HB1 HE1 HO1 HW1 HL1 HY1 HA1 x5 y0c
            go_upto_region 10 with (fail)
            have g0 := HY7.out.cell 0; have g1 := HY7.out.cell 1
            simp only [List.getElem?_toArray, List.getElem?_cons_zero, List.getElem?_cons_succ] at g0 g1
            have hw1 : IntKind.i64.wrap (1 - y1) = 1 - y1 := IntWalk.i64_in _ (by have := HST.out.ok; obtain ⟨s, -, -, hk⟩ := this; simp only at hk; omega)
            have HWR := Lib.hid hw1
            have HBd := Lib.hid HB7.out; have HEd := Lib.hid HE7.out; have HOd := Lib.hid HO7.out; have HWd := Lib.hid HW7.out; have HLd := Lib.hid HL7.out; have HYd := Lib.hid HY7.out
            have HAd : Hid (w7.ownsRow nL 3 1 (.slice A8 (acc.length + 1) c8) (acc ++ [y0]).length (ivals (acc ++ [y0]))) := HA7.out
            clear HB7 HE7 HO7 HW7 HL7 HY7 HA7
            have f0 := HEd.out.cell 0; have f1 := HEd.out.cell 1; have f2 := HEd.out.frozen 0; have f3 := HEd.out.frozen 1
            simp only [List.getElem?_toArray, List.getElem?_cons_zero, List.getElem?_cons_succ] at f0 f1
            have rs := (HEd.out.set 0 (.int .i64 y0)).set 1 (.int .i64 (1 - y1))
            have h02 : n0 ≠ n2 := by have := HN.out; omega
            have h12 : n1 ≠ n2 := by have := HN.out; omega
            have HEs : Hid (Row ((w7.setCell ⟨n2, 0, none⟩ (.int .i64 y0)).setCell ⟨n2, 1, none⟩ (.int .i64 (1 - y1))) n2 47 #[.int .i64 y0, .int .i64 (1 - y1)]) := rs
            have HOs := Lib.hid ((HOd.out.far (p := ⟨n2, 0, none⟩) h12 (.int .i64 y0)).far (p := ⟨n2, 1, none⟩) h12 (.int .i64 (1 - y1)))
            have HWs := Lib.hid ((HWd.out.far (p := ⟨n2, 0, none⟩) h02 (.int .i64 y0)).far (p := ⟨n2, 1, none⟩) h02 (.int .i64 (1 - y1)))
            have hLn2 : nL ≠ n2 := by have := HN.out; omega
            have hYn2 : ny ≠ n2 := by have := HNY.out; omega
            have HLs := Lib.hid ((HLd.out.far (p := ⟨n2, 0, none⟩) hLn2 (.int .i64 y0)).far (p := ⟨n2, 1, none⟩) hLn2 (.int .i64 (1 - y1)))
            have HYs := Lib.hid ((HYd.out.far (p := ⟨n2, 0, none⟩) hYn2 (.int .i64 y0)).far (p := ⟨n2, 1, none⟩) hYn2 (.int .i64 (1 - y1)))
            have hfar := own_ne HAd.out HEd.out (by decide)
            have HAs := Lib.hid (own_far (own_far HAd.out (fun e => hfar e.symm) (a := ⟨n2, 0, none⟩) (.int .i64 y0)) (fun e => hfar e.symm) (a := ⟨n2, 1, none⟩) (.int .i64 (1 - y1)))
            have HBs := Lib.hid ((HBd.out.setCell (p := ⟨n2, 0, none⟩) (by have := HN.out; simp; omega) (.int .i64 y0)).setCell (p := ⟨n2, 1, none⟩) (by have := HN.out; simp; omega) (.int .i64 (1 - y1)))
            clear rs h02 h12 hLn2 hYn2 hfar HBd HEd HOd HWd HAd HLd HYd
            go_upto_region 11 with (fail)
            clear f0 f1 f2 f3 g0 g1 hw1
            generalize (w7.setCell ⟨n2, 0, none⟩ (.int .i64 y0)).setCell ⟨n2, 1, none⟩ (.int .i64 (1 - y1)) = wt at *
            have f0 := HYs.out.cell 0
            simp only [List.getElem?_toArray, List.getElem?_cons_zero] at f0
            have p0 := HLs.out.cell 0; have p1 := HLs.out.cell 1; have p2 := HLs.out.cell 2; have p3 := HLs.out.cell 3; have p4 := HLs.out.cell 4; have p5 := HLs.out.cell 5; have p6 := HLs.out.cell 6; have p7 := HLs.out.cell 7; have p8 := HLs.out.cell 8; have p9 := HLs.out.cell 9
            simp only [List.getElem?_toArray, List.getElem?_cons_zero, List.getElem?_cons_succ] at p0 p1 p2 p3 p4 p5 p6 p7 p8 p9
            go_wp2_with fail
            refine (refLen_any wt D _ L y0 (HI.out.keep HBs.out hDN) (by have := HBs.out.size; have := HN.out; omega) HL.out).mono ?_; rintro x w8 ⟨rfl, hb8⟩
            clear p0 p1 p2 p3 p4 p5 p6 p7 p8 p9
            have hll : 0 < lenL L.secs y0 ∧ lenL L.secs y0 ≤ 1000 := by obtain ⟨q, hq, hql⟩ := HIN.out; rw [hq]; exact HLEN.out q hql
            generalize lenL L.secs y0 = ll at *
            have hw2 : IntKind.i64.wrap (m - ll) = m - ll := IntWalk.i64_in _ (by have := HM.out; omega)
            have HMN : Hid (m - ll ≤ 1000000000000000000) := by have := HM.out; show _ ≤ _; omega
            clear f0
            have HZ : Hid (w8.ownsRow nL 3 1 (.slice A8 (acc.length + 1) c8) (acc ++ [y0]).length (ivals (acc ++ [y0])) ∧ Below nL w w8 ∧ Row w8 n2 47 #[.int .i64 y0, .int .i64 (1 - y1)] ∧ Row w8 n1 47 #[.int .i64 0, .int .i64 0] ∧ Row w8 n0 41 (tcells a b c d e (.slice (some ⟨bt, ot, none⟩) tr.length ct)) ∧ Row w8 nL 37 #[.slice A0 k0 c0, .slice A1 k1 c1, .slice A2 k2 c2, .slice A3 k3 c3, .slice A4 k4 c4, .int .i64 t0, .int .i64 t1, .int .i64 t2, .int .i64 t3, .int .i64 t4]) :=
              ⟨own_below HAs.out hb8, HBs.out.trans (hb8.mono (by have := HBs.out.size; have := HN.out; omega)), Below.row hb8 HEs.out HEs.out.lt, Below.row hb8 HOs.out HOs.out.lt, Below.row hb8 HWs.out HWs.out.lt, Below.row hb8 HLs.out HLs.out.lt⟩
            clear hb8 HAs HBs HEs HOs HWs HLs HYs
            go_wp2_with fail
            go_roundw
            case rel => exact ⟨acc ++ [y0], y0, 1 - y1, m - ll, rfl, HST.out, HZ.out.1, HZ.out.2.1, HZ.out.2.2.1, HZ.out.2.2.2.1, HZ.out.2.2.2.2.1, HZ.out.2.2.2.2.2, HMN.out⟩
            case measure => simp [intOf]; omega
    · have hsz : acc.length ≤ 100 := by have := HG.out.len; have := HL.out.s; omega
      have HRR : Hid (r = (acc, (e1, e2))) := HG.out.stop (by omega)
      go_wp2_with fail
      refine (refBack_any wr _ _ acc (Rd.of_own HA.out) (by omega)).mono ?_; rintro x wb ⟨vb, rfl, hob, hbb⟩
      obtain ⟨Ab, cb, hvb⟩ := own_slice hob
      subst hvb
      have HBb : Hid (Below nL w wb) := HB.out.trans (hbb.mono (by have := HB.out.size; have := HN.out; omega))
      have HOb := Lib.hid (Below.row hbb HO.out HO.out.lt)
      have HEb := Lib.hid (Below.row hbb HE.out HE.out.lt)
      have HWb := Lib.hid (Below.row hbb HW.out HW.out.lt)
      have HAb : Hid (wb.ownsRow nL 3 1 (.slice Ab acc.reverse.length cb) acc.reverse.length (ivals acc.reverse)) := own_base hob (by have := HB.out.size; have := HN.out; omega)
      obtain ⟨s, hs⟩ : ∃ s, acc.reverse ++ tr = s := ⟨_, rfl⟩
      have HSS : Hid (acc.reverse ++ tr = s ∧ acc.reverse.length ≤ 100) := ⟨hs, by rw [List.length_reverse]; exact hsz⟩
      clear hob hbb HB HO HE HW HA hs
      obtain ⟨er, her⟩ : ∃ q, acc.reverse = q := ⟨_, rfl⟩
      rw [her] at HAb HSS ⊢
      have HER := Lib.hid her
      clear her
      go_upto_region 13 with (fail)
      have d1 : wb.drew.cell? ⟨n0, 5, none⟩ = some (.slice (some ⟨bt, ot, none⟩) tr.length ct) := by have := HWb.out.cell 5; simpa using this
      have d2 : wb.drew.cell? ⟨n2, 0, none⟩ = some (.int .i64 e1) := by have := HEb.out.cell 0; simpa using this
      have d3 : wb.drew.cell? ⟨n2, 1, none⟩ = some (.int .i64 e2) := by have := HEb.out.cell 1; simpa using this
      refine AnyBut.region (fun w' => w'.cell? ⟨n0, 5, none⟩ = some (.slice (some ⟨bt, ot, none⟩) tr.length ct) ∧ w'.cell? ⟨n2, 0, none⟩ = some (.int .i64 e1) ∧ w'.cell? ⟨n2, 1, none⟩ = some (.int .i64 e2)) 6 (by kernel_rfl) ?_
      change AnyBut _ _ _ _ _ _ _ _ _ wb.drew
      have HBd : Hid (Below nL w wb.drew) := HBb.out.drew
      have HOd : Hid (Row wb.drew n1 47 #[.int .i64 0, .int .i64 0]) := HOb.out
      have HEd : Hid (Row wb.drew n2 47 #[.int .i64 e1, .int .i64 e2]) := HEb.out
      have HWd : Hid (Row wb.drew n0 41 (tcells a b c d e (.slice (some ⟨bt, ot, none⟩) tr.length ct))) := HWb.out
      have HAd : Hid (wb.drew.ownsRow nL 3 1 (.slice Ab er.length cb) er.length (ivals er)) := HAb.out
      have HTd : Hid (Rd wb.drew wb.drew.heap.size (.slice (some ⟨bt, ot, none⟩) tr.length ct) (ivals tr)) := (HTR.out.below HBd.out (Nat.le_refl _)).mono (by have := HBd.out.size; have := HN.out; omega) (fun _ _ => rfl)
      clear HBb HOb HEb HWb HAb
      generalize wb.drew = wd at *
      refine AnyBut.take 0 rfl (by kernel_rfl) (by kernel_rfl) (by kernel_rfl) (by kernel_rfl) (by decide) (fun _ _ _ h => h) (yields_of (by rfl) (fun w9 hS => (by obtain ⟨s1, s2, s3⟩ := hS; go_simp; try rfl))) ⟨d1, d2, d3⟩ ?_
      refine AnyBut.take 1 rfl (by kernel_rfl) (by kernel_rfl) (by kernel_rfl) (by kernel_rfl) (by decide) (fun _ _ _ h => h) (yields_of (by rfl) (fun w9 hS => (by obtain ⟨s1, s2, s3⟩ := hS; go_simp; try rfl))) ⟨d1, d2, d3⟩ ?_
      refine AnyBut.take 2 rfl (by kernel_rfl) (by kernel_rfl) (by kernel_rfl) (by kernel_rfl) (by decide) (fun _ _ _ h => h) (yields_of (by rfl) (fun w9 hS => (by obtain ⟨s1, s2, s3⟩ := hS; go_simp; try rfl))) ⟨d1, d2, d3⟩ ?_
      refine AnyBut.take 4 rfl (by kernel_rfl) (by kernel_rfl) (by kernel_rfl) (by kernel_rfl) (by decide) (fun _ _ _ h => h) (yields_of (by rfl) (fun w9 hS => (by obtain ⟨s1, s2, s3⟩ := hS; go_simp; try rfl))) ⟨d1, d2, d3⟩ ?_
      clear d1 d2 d3
      refine AnyBut.one 3 rfl (by kernel_rfl) (by rfl) ?_
      refine wp_append_lies wd (.tmp 82) (.tmp 84) 38 rfl nL 3 i3 (.int .i64 0) 1 8 Try.underlying38 hi3 hz30 hz31 hz32 rfl (by decide) (.slice Ab er.length cb) er.length (ivals er) (by rfl) HAd.out ⟨bt, ot, none⟩ tr.length ct (ivals tr) (by rfl) (by rw [ivals_length, Nat.mul_one]) (fun j u hu => HTd.out.cells j u hu) (ivals_one tr) (by omega) (by have := HSS.out.2; unfold maxLen; omega) (by have := HSS.out.2; omega) (by have := HBd.out.size; have := HN.out; omega) wd.heap.size rfl ?_
      intro g5 c5 w5 hown5 hgrow5 _ _
      rw [ivals_app, HSS.out.1] at hown5
      have hl5 : er.length + tr.length = s.length := by rw [← HSS.out.1, List.length_append]
      rw [hl5] at hown5 ⊢
      have HO5 := Lib.hid (HOd.out.grown hgrow5 (own_ne HAd.out HOd.out (by decide)))
      have HE5 := Lib.hid (HEd.out.grown hgrow5 (own_ne HAd.out HEd.out (by decide)))
      have HW5 := Lib.hid (HWd.out.grown hgrow5 (own_ne HAd.out HWd.out (by decide)))
      have HB5 : Hid (Below nL w w5) := HBd.out.grown hgrow5 (by have := HBd.out.size; have := HN.out; omega) (fun kk hk => (HAd.out.lt kk hk).1)
      have HA5 := Lib.hid hown5
      clear hown5 hgrow5 HOd HEd HWd HBd HAd HTd
      have o0 := HO5.out.cell 0; have o1 := HO5.out.cell 1; have z0 := HO5.out.frozen 0; have z1 := HO5.out.frozen 1; have x5 := HW5.out.cell 5; have f0 := HE5.out.cell 0; have f1 := HE5.out.cell 1
      simp only [List.getElem?_toArray, List.getElem?_cons_zero, List.getElem?_cons_succ] at o0 o1 x5 f0 f1
      refine ⟨fun _ => ⟨x5, f0, f1⟩, ?_⟩
      refine AnyBut.one 5 rfl (by kernel_rfl) (by rfl) ?_
      go_simp
      refine AnyBut.one 6 rfl (by kernel_rfl) (by rfl) ?_
      go_simp
      refine AnyBut.done (by kernel_rfl) ?_
      go_wp2_with fail
      have r1 : Row (w5.setCell ⟨n1, 0, none⟩ (.int .i64 e1)) n1 47 #[.int .i64 e1, .int .i64 0] := HO5.out.set 0 _
      have r2 : Row ((w5.setCell ⟨n1, 0, none⟩ (.int .i64 e1)).setCell ⟨n1, 1, none⟩ (.int .i64 e2)) n1 47 #[.int .i64 e1, .int .i64 e2] := r1.set 1 _
      refine bodyPost_ret (results_tmp_cell_row rfl _ _ n1 47 #[.int .i64 e1, .int .i64 e2] (0, 0) _ rfl r2 Try.underlying47 rfl Try.size47) rfl ?_
      have hn := HN.out
      rw [HRR.out]
      simp only
      rw [HER.out, HSS.out.1]
      have hfar := own_ne HA5.out HO5.out (by decide)
      refine ⟨_, rfl, ?_, ?_⟩
      · rw [← hn.1]; exact own_far (own_far HA5.out (fun e => hfar e.symm) _) (fun e => hfar e.symm) _
      · rw [← hn.1]; exact (HB5.out.setCell (p := ⟨n1, 0, none⟩) (by show nL ≤ n1; omega) _).setCell (p := ⟨n1, 1, none⟩) (by show nL ≤ n1; omega) _


end Go.Proofs.Ytbomkifnhkmkoaa
