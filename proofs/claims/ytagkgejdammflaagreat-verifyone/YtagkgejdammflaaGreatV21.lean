/- Of the document: rule 4. -/
import Derived.Test.YtagkgejdammflaaGreatV20
import Derived.Test.YtagkgejdammflaaGreatWA
namespace Go.Proofs.YtagkgejdammflaaGreat
open Go.RowKit Fl
set_option maxRecDepth 100000

set_option maxHeartbeats 8000000 in
theorem holds4c (w : World) (v : Value) (L : Lay) (p : Nat) (h : LayV w w.heap.size v L) (hp : p < L.secs.length) (hpl : Placed L) (hbA : inB L.secs[p].2.1 0 ((L.nodes.length : Int) - 1) = true) (hbB : inB L.secs[p].2.2 0 ((L.nodes.length : Int) - 1) = true) : Calls Tryz.prog 26 #[v, .int .i64 4, .int .i64 p] w (RetL (fitsSB L L.secs[p]) w) := by
  have HV0 := Lib.hid h
  obtain ⟨vN, vS, vP, vQ, vR, ps, rfl, hd⟩ := h
  obtain ⟨⟨A0, c0, rfl⟩, ⟨A1, c1, rfl⟩, ⟨A2, c2, rfl⟩, ⟨A3, c3, rfl⟩, ⟨A4, c4, rfl⟩⟩ := hd.slices
  have hbn := (Below.refl w.heap.size w).alloc (Nat.le_refl _) (.cells #[.slice A0 L.nodes.length c0, .slice A1 L.secs.length c1, .slice A2 L.parts.length c2, .slice A3 L.points.length c3, .slice A4 L.routes.length c4, .int .i64 L.speed, .int .i64 L.mute, .int .i64 L.wait, .int .i64 L.cancel, .int .i64 L.stay] 33)
  have HBA := Lib.hid hbn
  have HRA := Lib.hid (Row.new w 33 #[.slice A0 L.nodes.length c0, .slice A1 L.secs.length c1, .slice A2 L.parts.length c2, .slice A3 L.points.length c3, .slice A4 L.routes.length c4, .int .i64 L.speed, .int .i64 L.mute, .int .i64 L.wait, .int .i64 L.cancel, .int .i64 L.stay])
  have HVA := Lib.hid (HV0.out.up hbn)
  have HDA := Lib.hid (hd.mono hbn.size (fun _ hp => hbn.cell hp))
  clear hbn hd HV0
  obtain ⟨A', c', hv, hx⟩ := HDA.out.s
  obtain ⟨sb, so, hA, hsb, hc⟩ := hx (by omega)
  injection hv with e1 _ e3
  subst e1 e3
  subst hA
  obtain ⟨q0, q1, q2⟩ := hc p hp
  have hi2 : (p : Int) < (L.secs.length : Int) := by omega
  have hi3 : (0 : Int) ≤ (p : Int) := by omega
  generalize L.secs[p] = z at *
  obtain ⟨ln, a, b⟩ := z
  simp only at q0 q1 q2 hbA hbB
  have HN := Lib.hid HDA.out.n; have HF := Lib.hid HDA.out.f
  have HPL := Lib.hid hpl
  have HE : Hid (fitsSB L (ln, a, b) = (inB a 0 ((L.nodes.length : Int) - 1) && (inB b 0 ((L.nodes.length : Int) - 1) && fitsB ((nodeAtL L b).1 - (nodeAtL L a).1) ((nodeAtL L b).2 - (nodeAtL L a).2) ln))) := rfl
  rw [HE.out, hbA, hbB]
  have HBA2 := Lib.hid hbA; have HBB2 := Lib.hid hbB
  clear hx hc hsb HE hpl hbA hbB
  obtain ⟨ka, rfl, hka⟩ := inB_nat HBA2.out
  obtain ⟨kb, rfl, hkb⟩ := inB_nat HBB2.out
  obtain ⟨qb, qo, xa, ya, hA0, hnb, ca, fa1, fa2⟩ := nd_at HN.out HF.out ka hka
  obtain ⟨nb', no', xb, yb, hA0', hnb', cb, fb1, fb2⟩ := nd_at HN.out HF.out kb hkb
  subst hA0
  injection hA0' with hA0'
  injection hA0' with z1 z2
  subst z1 z2
  have hpa := HPL.out _ (List.getElem_mem hka)
  have hpb := HPL.out _ (List.getElem_mem hkb)
  rw [nodeAtL_nat L ka hka, nodeAtL_nat L kb hkb]
  have HFT : Hid (∀ W : World, Calls Tryz.prog 53 #[.complex .f64 xa ya, .complex .f64 xb yb, .int .i64 ln] W fun e w' => e = .returned (.bool (fitsB (L.nodes[kb].1 - L.nodes[ka].1) (L.nodes[kb].2 - L.nodes[ka].2) ln)) ∧ W = w') := fun W => refFits_any xa ya xb yb _ _ _ _ ln W fa1 fa2 fb1 fb2 (by omega) (by omega)
  generalize fitsB (L.nodes[kb].1 - L.nodes[ka].1) (L.nodes[kb].2 - L.nodes[ka].2) ln = bf at *
  have hx0 := Lib.hid ca; have hx1 := Lib.hid cb
  have HQ0 := Lib.hid hnb
  have hkaI : (ka : Int) < (L.nodes.length : Int) := by omega
  have hkbI : (kb : Int) < (L.nodes.length : Int) := by omega
  have hka0 : (0 : Int) ≤ (ka : Int) := by omega
  have hkb0 : (0 : Int) ≤ (kb : Int) := by omega
  clear fa1 fa2 fb1 fb2 hpa hpb ca cb HF HN HPL hnb hnb' HDA
  go_enter Tryz.func26, Tryz.ntmps26
  go_upto_region 1 with (fail)
  obtain ⟨n0, hn0⟩ : ∃ n, n = w.heap.size := ⟨_, rfl⟩
  rw [← hn0] at HRA ⊢
  clear hn0
  generalize w.alloc (.cells #[.slice (some ⟨qb, qo, none⟩) L.nodes.length c0, .slice (some ⟨sb, so, none⟩) L.secs.length c1, .slice A2 L.parts.length c2, .slice A3 L.points.length c3, .slice A4 L.routes.length c4, .int .i64 L.speed, .int .i64 L.mute, .int .i64 L.wait, .int .i64 L.cancel, .int .i64 L.stay] 33) = W0 at *
  have l1 : W0.cell? ⟨n0, 1, none⟩ = some (.slice (some ⟨sb, so, none⟩) L.secs.length c1) := by have h := HRA.out.cell 1; simpa using h

  have HB1 : Hid (Below W0.heap.size W0 (W0.alloc (.cells #[.int .i64 ln, .int .i64 (ka : Int), .int .i64 (kb : Int)] 39))) := (Below.refl _ _).alloc (Nat.le_refl _) _
  have HR1 := Lib.hid (Row.new W0 39 #[.int .i64 ln, .int .i64 (ka : Int), .int .i64 (kb : Int)])
  have HRW := Lib.hid (Below.row HB1.out HRA.out HRA.out.lt)
  have HVW := Lib.hid (HVA.out.up HB1.out)
  have HBW : Hid (Below w.heap.size w (W0.alloc (.cells #[.int .i64 ln, .int .i64 (ka : Int), .int .i64 (kb : Int)] 39))) := HBA.out.trans (HB1.out.mono HBA.out.size)
  have HX0 := Lib.hid ((HB1.out.cell (p := ⟨qb, qo + ka, none⟩) HQ0.out).trans hx0.out)
  have HX1 := Lib.hid ((HB1.out.cell (p := ⟨qb, qo + kb, none⟩) HQ0.out).trans hx1.out)
  have HQB : Hid (qb < (W0.alloc (.cells #[.int .i64 ln, .int .i64 (ka : Int), .int .i64 (kb : Int)] 39)).heap.size) := Nat.lt_of_lt_of_le HQ0.out HB1.out.size
  clear HRA HVA HBA
  go_upto_region 15 with (fail)
  obtain ⟨nb, hnb⟩ : ∃ n, n = W0.heap.size := ⟨_, rfl⟩
  rw [← hnb] at HR1 ⊢
  clear hnb HB1 l1 q0 q1 q2
  generalize W0.alloc (.cells #[.int .i64 ln, .int .i64 (ka : Int), .int .i64 (kb : Int)] 39) = W1 at *
  have s_wd : W1.drew.cell? ⟨n0, 0, none⟩ = some (.slice (some ⟨qb, qo, none⟩) L.nodes.length c0) ∧ W1.drew.cell? ⟨n0, 1, none⟩ = some (.slice (some ⟨sb, so, none⟩) L.secs.length c1) ∧ W1.drew.cell? ⟨n0, 2, none⟩ = some (.slice A2 L.parts.length c2) ∧ W1.drew.cell? ⟨n0, 3, none⟩ = some (.slice A3 L.points.length c3) ∧ W1.drew.cell? ⟨n0, 4, none⟩ = some (.slice A4 L.routes.length c4) ∧ W1.drew.cell? ⟨n0, 5, none⟩ = some (.int .i64 L.speed) ∧ W1.drew.cell? ⟨n0, 6, none⟩ = some (.int .i64 L.mute) ∧ W1.drew.cell? ⟨n0, 7, none⟩ = some (.int .i64 L.wait) ∧ W1.drew.cell? ⟨n0, 8, none⟩ = some (.int .i64 L.cancel) ∧ W1.drew.cell? ⟨n0, 9, none⟩ = some (.int .i64 L.stay) ∧ W1.drew.cell? ⟨nb, 0, none⟩ = some (.int .i64 ln) ∧ W1.drew.cell? ⟨nb, 1, none⟩ = some (.int .i64 (ka : Int)) ∧ W1.drew.cell? ⟨nb, 2, none⟩ = some (.int .i64 (kb : Int)) ∧ W1.drew.cell? ⟨qb, qo + ka, none⟩ = some (.complex .f64 xa ya) ∧ W1.drew.cell? ⟨qb, qo + kb, none⟩ = some (.complex .f64 xb yb) := ⟨(by have h := HRW.out.cell 0; simpa using h), (by have h := HRW.out.cell 1; simpa using h), (by have h := HRW.out.cell 2; simpa using h), (by have h := HRW.out.cell 3; simpa using h), (by have h := HRW.out.cell 4; simpa using h), (by have h := HRW.out.cell 5; simpa using h), (by have h := HRW.out.cell 6; simpa using h), (by have h := HRW.out.cell 7; simpa using h), (by have h := HRW.out.cell 8; simpa using h), (by have h := HRW.out.cell 9; simpa using h), (by have h := HR1.out.cell 0; simpa using h), (by have h := HR1.out.cell 1; simpa using h), (by have h := HR1.out.cell 2; simpa using h), HX0.out, HX1.out⟩
  have hz_wd : n0 < W1.drew.heap.size := HRW.out.lt
  have hb_wd : nb < W1.drew.heap.size := HR1.out.lt
  have hq_wd : qb < W1.drew.heap.size := HQB.out
  have HB_wd : Hid (Below W1.heap.size W1 W1.drew) := below_drewN (Below.refl _ _) 1
  have HWA : Hid (∀ W, Below W1.heap.size W1 W → Calls Tryz.prog 52 #[.agg #[.slice (some ⟨qb, qo, none⟩) L.nodes.length c0, .slice (some ⟨sb, so, none⟩) L.secs.length c1, .slice A2 L.parts.length c2, .slice A3 L.points.length c3, .slice A4 L.routes.length c4, .int .i64 L.speed, .int .i64 L.mute, .int .i64 L.wait, .int .i64 L.cancel, .int .i64 L.stay], .int .i64 (ka : Int)] W (RetL true W)) := fun W hW => by
    have h := refNode52_any W _ L (ka : Int) (HVW.out.up hW)
    rw [HBA2.out] at h
    exact h
  have HWB : Hid (∀ W, Below W1.heap.size W1 W → Calls Tryz.prog 52 #[.agg #[.slice (some ⟨qb, qo, none⟩) L.nodes.length c0, .slice (some ⟨sb, so, none⟩) L.secs.length c1, .slice A2 L.parts.length c2, .slice A3 L.points.length c3, .slice A4 L.routes.length c4, .int .i64 L.speed, .int .i64 L.mute, .int .i64 L.wait, .int .i64 L.cancel, .int .i64 L.stay], .int .i64 (kb : Int)] W (RetL true W)) := fun W hW => by
    have h := refNode52_any W _ L (kb : Int) (HVW.out.up hW)
    rw [HBB2.out] at h
    exact h
  clear HRW HR1
  go_region_held3 (fun w' => w'.cell? ⟨n0, 0, none⟩ = some (.slice (some ⟨qb, qo, none⟩) L.nodes.length c0) ∧ w'.cell? ⟨n0, 1, none⟩ = some (.slice (some ⟨sb, so, none⟩) L.secs.length c1) ∧ w'.cell? ⟨n0, 2, none⟩ = some (.slice A2 L.parts.length c2) ∧ w'.cell? ⟨n0, 3, none⟩ = some (.slice A3 L.points.length c3) ∧ w'.cell? ⟨n0, 4, none⟩ = some (.slice A4 L.routes.length c4) ∧ w'.cell? ⟨n0, 5, none⟩ = some (.int .i64 L.speed) ∧ w'.cell? ⟨n0, 6, none⟩ = some (.int .i64 L.mute) ∧ w'.cell? ⟨n0, 7, none⟩ = some (.int .i64 L.wait) ∧ w'.cell? ⟨n0, 8, none⟩ = some (.int .i64 L.cancel) ∧ w'.cell? ⟨n0, 9, none⟩ = some (.int .i64 L.stay) ∧ w'.cell? ⟨nb, 0, none⟩ = some (.int .i64 ln) ∧ w'.cell? ⟨nb, 1, none⟩ = some (.int .i64 (ka : Int)) ∧ w'.cell? ⟨nb, 2, none⟩ = some (.int .i64 (kb : Int)) ∧ w'.cell? ⟨qb, qo + ka, none⟩ = some (.complex .f64 xa ya) ∧ w'.cell? ⟨qb, qo + kb, none⟩ = some (.complex .f64 xb yb)) (first | exact s_w3 | exact s_w2 | exact s_wd) (first | (go_at_call 52; (with_reducible refine (HWA.out W1.drew HB_wd.out).mono ?_); rintro e w2 ⟨rfl, hb2⟩; have s_w2 : w2.cell? ⟨n0, 0, none⟩ = some (.slice (some ⟨qb, qo, none⟩) L.nodes.length c0) ∧ w2.cell? ⟨n0, 1, none⟩ = some (.slice (some ⟨sb, so, none⟩) L.secs.length c1) ∧ w2.cell? ⟨n0, 2, none⟩ = some (.slice A2 L.parts.length c2) ∧ w2.cell? ⟨n0, 3, none⟩ = some (.slice A3 L.points.length c3) ∧ w2.cell? ⟨n0, 4, none⟩ = some (.slice A4 L.routes.length c4) ∧ w2.cell? ⟨n0, 5, none⟩ = some (.int .i64 L.speed) ∧ w2.cell? ⟨n0, 6, none⟩ = some (.int .i64 L.mute) ∧ w2.cell? ⟨n0, 7, none⟩ = some (.int .i64 L.wait) ∧ w2.cell? ⟨n0, 8, none⟩ = some (.int .i64 L.cancel) ∧ w2.cell? ⟨n0, 9, none⟩ = some (.int .i64 L.stay) ∧ w2.cell? ⟨nb, 0, none⟩ = some (.int .i64 ln) ∧ w2.cell? ⟨nb, 1, none⟩ = some (.int .i64 (ka : Int)) ∧ w2.cell? ⟨nb, 2, none⟩ = some (.int .i64 (kb : Int)) ∧ w2.cell? ⟨qb, qo + ka, none⟩ = some (.complex .f64 xa ya) ∧ w2.cell? ⟨qb, qo + kb, none⟩ = some (.complex .f64 xb yb) := ⟨(hb2.cell (p := ⟨n0, 0, none⟩) hz_wd).trans (s_wd.1), (hb2.cell (p := ⟨n0, 1, none⟩) hz_wd).trans (s_wd.2.1), (hb2.cell (p := ⟨n0, 2, none⟩) hz_wd).trans (s_wd.2.2.1), (hb2.cell (p := ⟨n0, 3, none⟩) hz_wd).trans (s_wd.2.2.2.1), (hb2.cell (p := ⟨n0, 4, none⟩) hz_wd).trans (s_wd.2.2.2.2.1), (hb2.cell (p := ⟨n0, 5, none⟩) hz_wd).trans (s_wd.2.2.2.2.2.1), (hb2.cell (p := ⟨n0, 6, none⟩) hz_wd).trans (s_wd.2.2.2.2.2.2.1), (hb2.cell (p := ⟨n0, 7, none⟩) hz_wd).trans (s_wd.2.2.2.2.2.2.2.1), (hb2.cell (p := ⟨n0, 8, none⟩) hz_wd).trans (s_wd.2.2.2.2.2.2.2.2.1), (hb2.cell (p := ⟨n0, 9, none⟩) hz_wd).trans (s_wd.2.2.2.2.2.2.2.2.2.1), (hb2.cell (p := ⟨nb, 0, none⟩) hb_wd).trans (s_wd.2.2.2.2.2.2.2.2.2.2.1), (hb2.cell (p := ⟨nb, 1, none⟩) hb_wd).trans (s_wd.2.2.2.2.2.2.2.2.2.2.2.1), (hb2.cell (p := ⟨nb, 2, none⟩) hb_wd).trans (s_wd.2.2.2.2.2.2.2.2.2.2.2.2.1), (hb2.cell (p := ⟨qb, qo + ka, none⟩) hq_wd).trans (s_wd.2.2.2.2.2.2.2.2.2.2.2.2.2.1), (hb2.cell (p := ⟨qb, qo + kb, none⟩) hq_wd).trans (s_wd.2.2.2.2.2.2.2.2.2.2.2.2.2.2)⟩; have hz_w2 := Nat.lt_of_lt_of_le hz_wd hb2.size; have hb_w2 := Nat.lt_of_lt_of_le hb_wd hb2.size; have hq_w2 := Nat.lt_of_lt_of_le hq_wd hb2.size; have HB_w2 : Hid (Below W1.heap.size W1 w2) := HB_wd.out.trans (hb2.mono HB_wd.out.size); clear hb2) | (go_at_call 52; (with_reducible refine (HWB.out w2 HB_w2.out).mono ?_); rintro e w3 ⟨rfl, hb3⟩; have s_w3 : w3.cell? ⟨n0, 0, none⟩ = some (.slice (some ⟨qb, qo, none⟩) L.nodes.length c0) ∧ w3.cell? ⟨n0, 1, none⟩ = some (.slice (some ⟨sb, so, none⟩) L.secs.length c1) ∧ w3.cell? ⟨n0, 2, none⟩ = some (.slice A2 L.parts.length c2) ∧ w3.cell? ⟨n0, 3, none⟩ = some (.slice A3 L.points.length c3) ∧ w3.cell? ⟨n0, 4, none⟩ = some (.slice A4 L.routes.length c4) ∧ w3.cell? ⟨n0, 5, none⟩ = some (.int .i64 L.speed) ∧ w3.cell? ⟨n0, 6, none⟩ = some (.int .i64 L.mute) ∧ w3.cell? ⟨n0, 7, none⟩ = some (.int .i64 L.wait) ∧ w3.cell? ⟨n0, 8, none⟩ = some (.int .i64 L.cancel) ∧ w3.cell? ⟨n0, 9, none⟩ = some (.int .i64 L.stay) ∧ w3.cell? ⟨nb, 0, none⟩ = some (.int .i64 ln) ∧ w3.cell? ⟨nb, 1, none⟩ = some (.int .i64 (ka : Int)) ∧ w3.cell? ⟨nb, 2, none⟩ = some (.int .i64 (kb : Int)) ∧ w3.cell? ⟨qb, qo + ka, none⟩ = some (.complex .f64 xa ya) ∧ w3.cell? ⟨qb, qo + kb, none⟩ = some (.complex .f64 xb yb) := ⟨(hb3.cell (p := ⟨n0, 0, none⟩) hz_w2).trans (s_w2.1), (hb3.cell (p := ⟨n0, 1, none⟩) hz_w2).trans (s_w2.2.1), (hb3.cell (p := ⟨n0, 2, none⟩) hz_w2).trans (s_w2.2.2.1), (hb3.cell (p := ⟨n0, 3, none⟩) hz_w2).trans (s_w2.2.2.2.1), (hb3.cell (p := ⟨n0, 4, none⟩) hz_w2).trans (s_w2.2.2.2.2.1), (hb3.cell (p := ⟨n0, 5, none⟩) hz_w2).trans (s_w2.2.2.2.2.2.1), (hb3.cell (p := ⟨n0, 6, none⟩) hz_w2).trans (s_w2.2.2.2.2.2.2.1), (hb3.cell (p := ⟨n0, 7, none⟩) hz_w2).trans (s_w2.2.2.2.2.2.2.2.1), (hb3.cell (p := ⟨n0, 8, none⟩) hz_w2).trans (s_w2.2.2.2.2.2.2.2.2.1), (hb3.cell (p := ⟨n0, 9, none⟩) hz_w2).trans (s_w2.2.2.2.2.2.2.2.2.2.1), (hb3.cell (p := ⟨nb, 0, none⟩) hb_w2).trans (s_w2.2.2.2.2.2.2.2.2.2.2.1), (hb3.cell (p := ⟨nb, 1, none⟩) hb_w2).trans (s_w2.2.2.2.2.2.2.2.2.2.2.2.1), (hb3.cell (p := ⟨nb, 2, none⟩) hb_w2).trans (s_w2.2.2.2.2.2.2.2.2.2.2.2.2.1), (hb3.cell (p := ⟨qb, qo + ka, none⟩) hq_w2).trans (s_w2.2.2.2.2.2.2.2.2.2.2.2.2.2.1), (hb3.cell (p := ⟨qb, qo + kb, none⟩) hq_w2).trans (s_w2.2.2.2.2.2.2.2.2.2.2.2.2.2.2)⟩; have hz_w3 := Nat.lt_of_lt_of_le hz_w2 hb3.size; have hb_w3 := Nat.lt_of_lt_of_le hb_w2 hb3.size; have hq_w3 := Nat.lt_of_lt_of_le hq_w2 hb3.size; have HB_w3 : Hid (Below W1.heap.size W1 w3) := HB_w2.out.trans (hb3.mono HB_w2.out.size); clear hb3) | (go_at_call 53; (with_reducible refine (HFT.out _).mono ?_); rintro e w' ⟨rfl, rfl⟩))
  go_wp2_with fail
  go_ret
  exact ⟨(by simp), HBW.out.trans (HB_w3.out.mono HBW.out.size)⟩

theorem holds4 (w : World) (v : Value) (L : Lay) (p : Nat) (h : LayV w w.heap.size v L) (hp : p < L.secs.length) (hpl : Placed L) : Calls Tryz.prog 26 #[v, .int .i64 4, .int .i64 p] w (RetL (fitsSB L L.secs[p]) w) := by
  cases hbA : inB L.secs[p].2.1 0 ((L.nodes.length : Int) - 1) with
  | false =>
    have e : fitsSB L L.secs[p] = false := by unfold fitsSB; rw [hbA]; rfl
    rw [e]; exact holds4a w v L p h hp hbA
  | true =>
    cases hbB : inB L.secs[p].2.2 0 ((L.nodes.length : Int) - 1) with
    | false =>
      have e : fitsSB L L.secs[p] = false := by unfold fitsSB; rw [hbA, hbB]; rfl
      rw [e]; exact holds4b w v L p h hp hbA hbB
    | true => exact holds4c w v L p h hp hpl hbA hbB


end Go.Proofs.YtagkgejdammflaaGreat
