/- Of the document: rule 12, at a node at which three ends are. -/
import Derived.Test.YtagkgejdammflaaGreatV24
namespace Go.Proofs.YtagkgejdammflaaGreat
open Go.RowKit Fl
set_option maxRecDepth 100000

/-- Two numbers may come up. -/
theorem anybut_two {P : Program} {md : Region.Mode} {ops : Array Oper} {Q : Exit → Act → World → Prop} {S : World → Prop} {t n : Nat} {L : Array Bool} {a : Act} {w : World} (i j : Nat) {oi oj : Oper} (hi : ops[i]? = some oi) (hj : ops[j]? = some oj) (hr : Region.ready md ops L = [i, j]) (hwi : Region.wanted oi (yielded ops a.tmps) = true) (hwj : Region.wanted oj (yielded ops a.tmps) = true)
    (h1 : oi.wp P a w (fun a' w' => (i ≠ t → S w') ∧ AnyBut P md ops Q S t n (L.setIfInBounds i true) a' w') Q)
    (h2 : oj.wp P a w (fun a' w' => (j ≠ t → S w') ∧ AnyBut P md ops Q S t n (L.setIfInBounds j true) a' w') Q) : AnyBut P md ops Q S t (n + 1) L a w :=
  ⟨fun h0 => absurd (hr.symm.trans h0) (by simp), fun k hk => (by
    rw [hr] at hk
    rcases List.mem_cons.1 hk with e | e
    · rw [e]
      unfold wpOp
      simp only [hi, hwi, if_true]
      exact .inl h1
    · have e2 : k = j := by simpa using e
      rw [e2]
      unfold wpOp
      simp only [hj, hwj, if_true]
      exact .inl h2)⟩

set_option maxHeartbeats 8000000 in
theorem holds12a (w : World) (v : Value) (L : Lay) (p : Nat) (h : LayV w w.heap.size v L) (hL : Fits L) (hN : Noded L) (hP : Placed L) (hJ : ∀ q ∈ L.points, joinsB L q = true) (hp : p < L.nodes.length) (hI : itsPointB L p = true) (h3 : (endsL L.secs p).length = 3) : Calls Tryz.prog 26 #[v, .int .i64 12, .int .i64 (p : Nat)] w (RetL (goesB L p) w) := by
  have HV0 := Lib.hid h
  obtain ⟨vN, vS, vP, vQ, vR, ps, rfl, hd⟩ := h
  obtain ⟨⟨A0, c0, rfl⟩, ⟨A1, c1, rfl⟩, ⟨A2, c2, rfl⟩, ⟨A3, c3, rfl⟩, ⟨A4, c4, rfl⟩⟩ := hd.slices
  have hbn := (Below.refl w.heap.size w).alloc (Nat.le_refl _) (.cells #[.slice A0 L.nodes.length c0, .slice A1 L.secs.length c1, .slice A2 L.parts.length c2, .slice A3 L.points.length c3, .slice A4 L.routes.length c4, .int .i64 L.speed, .int .i64 L.mute, .int .i64 L.wait, .int .i64 L.cancel, .int .i64 L.stay] 33)
  have HBA := Lib.hid hbn
  have HRA := Lib.hid (Row.new w 33 #[.slice A0 L.nodes.length c0, .slice A1 L.secs.length c1, .slice A2 L.parts.length c2, .slice A3 L.points.length c3, .slice A4 L.routes.length c4, .int .i64 L.speed, .int .i64 L.mute, .int .i64 L.wait, .int .i64 L.cancel, .int .i64 L.stay])
  have HVA := Lib.hid (HV0.out.up hbn)
  have HDA := Lib.hid (hd.mono hbn.size (fun _ hp => hbn.cell hp))
  have HDQ := Lib.hid (hd.q.mono hbn.size (fun _ hp => hbn.cell hp))
  clear hbn hd HV0
  have HL := Lib.hid hL
  have hel := endsL_le L hL (p : Int)
  clear HDA
  have hpt := pt_three hI h3
  have HG : Hid (goesB L p = (leadsB L (ptL L p).2.1 p (ptL L p).2.2.1 && leadsB L (ptL L p).2.1 p (ptL L p).2.2.2)) := goes_point hpt
  obtain ⟨i, hi, hil⟩ := pointL_lt hpt
  have hpi : ptL L (p : Int) = L.points[i] := by unfold ptL; rw [hi]; simp [hil]
  rw [HG.out, hpi]
  obtain ⟨m1, m2, m3⟩ := joins_mem (hJ _ (List.getElem_mem hil))
  obtain ⟨k1, hk1, hl1⟩ := secsAt_mem m1
  obtain ⟨k2, hk2, hl2⟩ := secsAt_mem m2
  obtain ⟨k3, hk3, hl3⟩ := secsAt_mem m3
  obtain ⟨A', c', hv, hx⟩ := HDQ.out
  obtain ⟨qb, qo, hA, hbl, hc⟩ := hx (by omega)
  injection hv with e1 _ e3
  subst e1 e3
  subst hA
  obtain ⟨q0, q1, q2, q3⟩ := hc i hil
  rw [hk1] at q1
  rw [hk2] at q2
  rw [hk3] at q3
  rw [hk1, hk2, hk3]
  generalize L.points[i].1 = z0 at *
  have HQ : Hid (_ ∧ _ ∧ _ ∧ _) := ⟨q0, q1, q2, q3⟩
  have HQB := Lib.hid hbl
  have hiI : (i : Int) < (L.points.length : Int) := by omega
  have hi0 : (0 : Int) ≤ (i : Int) := by omega
  have h33 : (((endsL L.secs p).length : Int) == 3) = true := by simp; omega
  have HPI := Lib.hid hi
  have HN2 := Lib.hid hN; have HP2 := Lib.hid hP; have HPL := Lib.hid hp
  have HL1 := Lib.hid hl1; have HL2 := Lib.hid hl2; have HL3 := Lib.hid hl3
  obtain ⟨b1, hb1⟩ : ∃ b, leadsB L (k1 : Int) p (k2 : Int) = b := ⟨_, rfl⟩
  obtain ⟨b2, hb2⟩ : ∃ b, leadsB L (k1 : Int) p (k3 : Int) = b := ⟨_, rfl⟩
  rw [hb1, hb2]
  have HL12 := Lib.hid hb1; have HL13 := Lib.hid hb2
  clear hL hN hP hJ hI HG h3 hp hpt hi hpi hk1 hk2 hk3 m1 m2 m3 hx hc q0 q1 q2 q3 hbl hil hl1 hl2 hl3 HDQ hb1 hb2
  go_enter Tryz.func26, Tryz.ntmps26
  go_upto_region 1 with (fail)
  obtain ⟨n0, hn0⟩ : ∃ n, n = w.heap.size := ⟨_, rfl⟩
  rw [← hn0] at HRA ⊢
  clear hn0
  generalize w.alloc (.cells #[.slice A0 L.nodes.length c0, .slice A1 L.secs.length c1, .slice A2 L.parts.length c2, .slice (some ⟨qb, qo, none⟩) L.points.length c3, .slice A4 L.routes.length c4, .int .i64 L.speed, .int .i64 L.mute, .int .i64 L.wait, .int .i64 L.cancel, .int .i64 L.stay] 33) = W0 at *
  have l0 : W0.cell? ⟨n0, 0, none⟩ = some (.slice A0 L.nodes.length c0) := by have h := HRA.out.cell 0; simpa using h
  have l1 : W0.cell? ⟨n0, 1, none⟩ = some (.slice A1 L.secs.length c1) := by have h := HRA.out.cell 1; simpa using h
  have l2 : W0.cell? ⟨n0, 2, none⟩ = some (.slice A2 L.parts.length c2) := by have h := HRA.out.cell 2; simpa using h
  have l3 : W0.cell? ⟨n0, 3, none⟩ = some (.slice (some ⟨qb, qo, none⟩) L.points.length c3) := by have h := HRA.out.cell 3; simpa using h
  have l4 : W0.cell? ⟨n0, 4, none⟩ = some (.slice A4 L.routes.length c4) := by have h := HRA.out.cell 4; simpa using h
  have l5 : W0.cell? ⟨n0, 5, none⟩ = some (.int .i64 L.speed) := by have h := HRA.out.cell 5; simpa using h
  have l6 : W0.cell? ⟨n0, 6, none⟩ = some (.int .i64 L.mute) := by have h := HRA.out.cell 6; simpa using h
  have l7 : W0.cell? ⟨n0, 7, none⟩ = some (.int .i64 L.wait) := by have h := HRA.out.cell 7; simpa using h
  have l8 : W0.cell? ⟨n0, 8, none⟩ = some (.int .i64 L.cancel) := by have h := HRA.out.cell 8; simpa using h
  have l9 : W0.cell? ⟨n0, 9, none⟩ = some (.int .i64 L.stay) := by have h := HRA.out.cell 9; simpa using h

  go_wp2_with fail
  refine (refEnds_any W0 W0.heap.size _ L (p : Int) HVA.out (Nat.le_refl _) HL.out).mono ?_; rintro e w1 ⟨v1, rfl, ho, hb⟩
  have HB1 := Lib.hid (HBA.out.trans (hb.mono HBA.out.size))
  have HRB := Lib.hid (Below.row hb HRA.out HRA.out.lt)
  have HVB := Lib.hid (HVA.out.up hb)
  have HPR := Lib.hid (Prs.of_own ho)
  obtain ⟨Ae, ce, hve⟩ := own_slice ho
  subst hve
  have HBK := Lib.hid hb; clear ho hb l0 l1 l2 l3 l4 l5 l6 l7 l8 l9 HRA HVA HBA
  go_upto_region 50 with (fail)
  obtain ⟨q0, q1, q2, q3⟩ := HQ.out
  have s_wd : w1.drew.cell? ⟨n0, 0, none⟩ = some (.slice A0 L.nodes.length c0) ∧ w1.drew.cell? ⟨n0, 1, none⟩ = some (.slice A1 L.secs.length c1) ∧ w1.drew.cell? ⟨n0, 2, none⟩ = some (.slice A2 L.parts.length c2) ∧ w1.drew.cell? ⟨n0, 3, none⟩ = some (.slice (some ⟨qb, qo, none⟩) L.points.length c3) ∧ w1.drew.cell? ⟨n0, 4, none⟩ = some (.slice A4 L.routes.length c4) ∧ w1.drew.cell? ⟨n0, 5, none⟩ = some (.int .i64 L.speed) ∧ w1.drew.cell? ⟨n0, 6, none⟩ = some (.int .i64 L.mute) ∧ w1.drew.cell? ⟨n0, 7, none⟩ = some (.int .i64 L.wait) ∧ w1.drew.cell? ⟨n0, 8, none⟩ = some (.int .i64 L.cancel) ∧ w1.drew.cell? ⟨n0, 9, none⟩ = some (.int .i64 L.stay) ∧ w1.drew.cell? ⟨qb, qo + i * 4, none⟩ = some (.int .i64 z0) ∧ w1.drew.cell? ⟨qb, qo + i * 4 + 1, none⟩ = some (.int .i64 (k1 : Int)) ∧ w1.drew.cell? ⟨qb, qo + i * 4 + 2, none⟩ = some (.int .i64 (k2 : Int)) ∧ w1.drew.cell? ⟨qb, qo + i * 4 + 3, none⟩ = some (.int .i64 (k3 : Int)) := ⟨(by have h := HRB.out.cell 0; simpa using h), (by have h := HRB.out.cell 1; simpa using h), (by have h := HRB.out.cell 2; simpa using h), (by have h := HRB.out.cell 3; simpa using h), (by have h := HRB.out.cell 4; simpa using h), (by have h := HRB.out.cell 5; simpa using h), (by have h := HRB.out.cell 6; simpa using h), (by have h := HRB.out.cell 7; simpa using h), (by have h := HRB.out.cell 8; simpa using h), (by have h := HRB.out.cell 9; simpa using h), (HBK.out.cell (p := ⟨qb, qo + i * 4, none⟩) HQB.out).trans q0, (HBK.out.cell (p := ⟨qb, qo + i * 4 + 1, none⟩) HQB.out).trans q1, (HBK.out.cell (p := ⟨qb, qo + i * 4 + 2, none⟩) HQB.out).trans q2, (HBK.out.cell (p := ⟨qb, qo + i * 4 + 3, none⟩) HQB.out).trans q3⟩
  have hz_wd : n0 < w1.drew.heap.size := HRB.out.lt
  have hq_wd : qb < w1.drew.heap.size := Nat.lt_of_lt_of_le HQB.out HBK.out.size
  have HBD : Hid (Below w.heap.size w w1.drew) := below_drewN HB1.out 1
  have HVD : Hid (LayV w1.drew w1.drew.heap.size (.agg #[.slice A0 L.nodes.length c0, .slice A1 L.secs.length c1, .slice A2 L.parts.length c2, .slice (some ⟨qb, qo, none⟩) L.points.length c3, .slice A4 L.routes.length c4, .int .i64 L.speed, .int .i64 L.mute, .int .i64 L.wait, .int .i64 L.cancel, .int .i64 L.stay]) L) := HVB.out.mono (Nat.le_refl _) (fun _ _ => rfl)
  have HPT : Hid (∀ W, Below w1.drew.heap.size w1.drew W → Calls Tryz.prog 29 #[.agg #[.slice A0 L.nodes.length c0, .slice A1 L.secs.length c1, .slice A2 L.parts.length c2, .slice (some ⟨qb, qo, none⟩) L.points.length c3, .slice A4 L.routes.length c4, .int .i64 L.speed, .int .i64 L.mute, .int .i64 L.wait, .int .i64 L.cancel, .int .i64 L.stay], .int .i64 (p : Int)] W fun e w' => e = .returned (.int .i64 (i : Int)) ∧ Below W.heap.size W w') := fun W hW => by
    have h := refPoint_any W W.heap.size _ L (p : Int) (HVD.out.up hW) (Nat.le_refl _) HL.out
    rw [HPI.out] at h
    exact h
  clear q0 q1 q2 q3 HRB HVB HPR HBK HQ HPI HB1
  go_cut [17] (fun v wx => ∃ nx, v = .pointer (some ⟨nx, 0, none⟩) ∧ Hid ((wx.cell? ⟨n0, 0, none⟩ = some (.slice A0 L.nodes.length c0) ∧ wx.cell? ⟨n0, 1, none⟩ = some (.slice A1 L.secs.length c1) ∧ wx.cell? ⟨n0, 2, none⟩ = some (.slice A2 L.parts.length c2) ∧ wx.cell? ⟨n0, 3, none⟩ = some (.slice (some ⟨qb, qo, none⟩) L.points.length c3) ∧ wx.cell? ⟨n0, 4, none⟩ = some (.slice A4 L.routes.length c4) ∧ wx.cell? ⟨n0, 5, none⟩ = some (.int .i64 L.speed) ∧ wx.cell? ⟨n0, 6, none⟩ = some (.int .i64 L.mute) ∧ wx.cell? ⟨n0, 7, none⟩ = some (.int .i64 L.wait) ∧ wx.cell? ⟨n0, 8, none⟩ = some (.int .i64 L.cancel) ∧ wx.cell? ⟨n0, 9, none⟩ = some (.int .i64 L.stay) ∧ wx.cell? ⟨qb, qo + i * 4, none⟩ = some (.int .i64 z0) ∧ wx.cell? ⟨qb, qo + i * 4 + 1, none⟩ = some (.int .i64 (k1 : Int)) ∧ wx.cell? ⟨qb, qo + i * 4 + 2, none⟩ = some (.int .i64 (k2 : Int)) ∧ wx.cell? ⟨qb, qo + i * 4 + 3, none⟩ = some (.int .i64 (k3 : Int))) ∧ Row wx nx 41 #[.int .i64 z0, .int .i64 (k1 : Int), .int .i64 (k2 : Int), .int .i64 (k3 : Int)] ∧ Below w.heap.size w wx ∧ LayV wx wx.heap.size (.agg #[.slice A0 L.nodes.length c0, .slice A1 L.secs.length c1, .slice A2 L.parts.length c2, .slice (some ⟨qb, qo, none⟩) L.points.length c3, .slice A4 L.routes.length c4, .int .i64 L.speed, .int .i64 L.mute, .int .i64 L.wait, .int .i64 L.cancel, .int .i64 L.stay]) L ∧ n0 < wx.heap.size ∧ qb < wx.heap.size))
  case first =>
    rename_i J K' hJ hK
    refine AnyBut.region (fun w' => w'.cell? ⟨n0, 0, none⟩ = some (.slice A0 L.nodes.length c0) ∧ w'.cell? ⟨n0, 1, none⟩ = some (.slice A1 L.secs.length c1) ∧ w'.cell? ⟨n0, 2, none⟩ = some (.slice A2 L.parts.length c2) ∧ w'.cell? ⟨n0, 3, none⟩ = some (.slice (some ⟨qb, qo, none⟩) L.points.length c3) ∧ w'.cell? ⟨n0, 4, none⟩ = some (.slice A4 L.routes.length c4) ∧ w'.cell? ⟨n0, 5, none⟩ = some (.int .i64 L.speed) ∧ w'.cell? ⟨n0, 6, none⟩ = some (.int .i64 L.mute) ∧ w'.cell? ⟨n0, 7, none⟩ = some (.int .i64 L.wait) ∧ w'.cell? ⟨n0, 8, none⟩ = some (.int .i64 L.cancel) ∧ w'.cell? ⟨n0, 9, none⟩ = some (.int .i64 L.stay) ∧ w'.cell? ⟨qb, qo + i * 4, none⟩ = some (.int .i64 z0) ∧ w'.cell? ⟨qb, qo + i * 4 + 1, none⟩ = some (.int .i64 (k1 : Int)) ∧ w'.cell? ⟨qb, qo + i * 4 + 2, none⟩ = some (.int .i64 (k2 : Int)) ∧ w'.cell? ⟨qb, qo + i * 4 + 3, none⟩ = some (.int .i64 (k3 : Int))) 8 (by kernel_rfl) ?_
    change AnyBut _ _ _ _ _ _ _ _ _ w1.drew
    have HSW : Hid (w.heap.size ≤ w1.drew.heap.size) := HBD.out.size
    generalize w1.drew = WD at *
    refine anybut_take 0 317 rfl rfl (by kernel_rfl) (by kernel_rfl) (by kernel_rfl) (by kernel_rfl) (by decide) (fun _ _ _ h => h) (yields_of (by rfl) (fun w9 hS => (by obtain ⟨g0, g1, g2, g3, g4, g5, g6, g7, g8, g9, g10, g11, g12, g13⟩ := hS; go_simp; try rfl))) s_wd ?_
    simp only [Act.put, List.setIfInBounds_toArray, List.set_cons_zero, List.set_cons_succ]
    refine anybut_take 1 318 rfl rfl (by kernel_rfl) (by kernel_rfl) (by kernel_rfl) (by kernel_rfl) (by decide) (fun _ _ _ h => h) (yields_of (by rfl) (fun w9 hS => (by obtain ⟨g0, g1, g2, g3, g4, g5, g6, g7, g8, g9, g10, g11, g12, g13⟩ := hS; go_simp; try rfl))) s_wd ?_
    simp only [Act.put, List.setIfInBounds_toArray, List.set_cons_zero, List.set_cons_succ]
    refine anybut_take 2 319 rfl rfl (by kernel_rfl) (by kernel_rfl) (by kernel_rfl) (by kernel_rfl) (by decide) (fun _ _ _ h => h) (yields_of (by rfl) (fun w9 hS => (by obtain ⟨g0, g1, g2, g3, g4, g5, g6, g7, g8, g9, g10, g11, g12, g13⟩ := hS; go_simp; try rfl))) s_wd ?_
    simp only [Act.put, List.setIfInBounds_toArray, List.set_cons_zero, List.set_cons_succ]
    refine anybut_take 3 320 rfl rfl (by kernel_rfl) (by kernel_rfl) (by kernel_rfl) (by kernel_rfl) (by decide) (fun _ _ _ h => h) (yields_of (by rfl) (fun w9 hS => (by obtain ⟨g0, g1, g2, g3, g4, g5, g6, g7, g8, g9, g10, g11, g12, g13⟩ := hS; go_simp; try rfl))) s_wd ?_
    simp only [Act.put, List.setIfInBounds_toArray, List.set_cons_zero, List.set_cons_succ]
    refine anybut_two 4 7 rfl rfl (by kernel_rfl) (by rfl) (by rfl) ?_ ?_
    · go_simp
      refine (HPT.out WD (Below.refl _ _)).mono ?_; rintro e w2 ⟨rfl, hb2⟩
      have s_w2 : w2.cell? ⟨n0, 0, none⟩ = some (.slice A0 L.nodes.length c0) ∧ w2.cell? ⟨n0, 1, none⟩ = some (.slice A1 L.secs.length c1) ∧ w2.cell? ⟨n0, 2, none⟩ = some (.slice A2 L.parts.length c2) ∧ w2.cell? ⟨n0, 3, none⟩ = some (.slice (some ⟨qb, qo, none⟩) L.points.length c3) ∧ w2.cell? ⟨n0, 4, none⟩ = some (.slice A4 L.routes.length c4) ∧ w2.cell? ⟨n0, 5, none⟩ = some (.int .i64 L.speed) ∧ w2.cell? ⟨n0, 6, none⟩ = some (.int .i64 L.mute) ∧ w2.cell? ⟨n0, 7, none⟩ = some (.int .i64 L.wait) ∧ w2.cell? ⟨n0, 8, none⟩ = some (.int .i64 L.cancel) ∧ w2.cell? ⟨n0, 9, none⟩ = some (.int .i64 L.stay) ∧ w2.cell? ⟨qb, qo + i * 4, none⟩ = some (.int .i64 z0) ∧ w2.cell? ⟨qb, qo + i * 4 + 1, none⟩ = some (.int .i64 (k1 : Int)) ∧ w2.cell? ⟨qb, qo + i * 4 + 2, none⟩ = some (.int .i64 (k2 : Int)) ∧ w2.cell? ⟨qb, qo + i * 4 + 3, none⟩ = some (.int .i64 (k3 : Int)) := ⟨(hb2.cell (p := ⟨n0, 0, none⟩) hz_wd).trans (s_wd.1), (hb2.cell (p := ⟨n0, 1, none⟩) hz_wd).trans (s_wd.2.1), (hb2.cell (p := ⟨n0, 2, none⟩) hz_wd).trans (s_wd.2.2.1), (hb2.cell (p := ⟨n0, 3, none⟩) hz_wd).trans (s_wd.2.2.2.1), (hb2.cell (p := ⟨n0, 4, none⟩) hz_wd).trans (s_wd.2.2.2.2.1), (hb2.cell (p := ⟨n0, 5, none⟩) hz_wd).trans (s_wd.2.2.2.2.2.1), (hb2.cell (p := ⟨n0, 6, none⟩) hz_wd).trans (s_wd.2.2.2.2.2.2.1), (hb2.cell (p := ⟨n0, 7, none⟩) hz_wd).trans (s_wd.2.2.2.2.2.2.2.1), (hb2.cell (p := ⟨n0, 8, none⟩) hz_wd).trans (s_wd.2.2.2.2.2.2.2.2.1), (hb2.cell (p := ⟨n0, 9, none⟩) hz_wd).trans (s_wd.2.2.2.2.2.2.2.2.2.1), (hb2.cell (p := ⟨qb, qo + i * 4, none⟩) hq_wd).trans (s_wd.2.2.2.2.2.2.2.2.2.2.1), (hb2.cell (p := ⟨qb, qo + i * 4 + 1, none⟩) hq_wd).trans (s_wd.2.2.2.2.2.2.2.2.2.2.2.1), (hb2.cell (p := ⟨qb, qo + i * 4 + 2, none⟩) hq_wd).trans (s_wd.2.2.2.2.2.2.2.2.2.2.2.2.1), (hb2.cell (p := ⟨qb, qo + i * 4 + 3, none⟩) hq_wd).trans (s_wd.2.2.2.2.2.2.2.2.2.2.2.2.2)⟩
      have hz_w2 := Nat.lt_of_lt_of_le hz_wd hb2.size
      have hq_w2 := Nat.lt_of_lt_of_le hq_wd hb2.size
      have s_a : ∀ o, (w2.alloc o).cell? ⟨n0, 0, none⟩ = some (.slice A0 L.nodes.length c0) ∧ (w2.alloc o).cell? ⟨n0, 1, none⟩ = some (.slice A1 L.secs.length c1) ∧ (w2.alloc o).cell? ⟨n0, 2, none⟩ = some (.slice A2 L.parts.length c2) ∧ (w2.alloc o).cell? ⟨n0, 3, none⟩ = some (.slice (some ⟨qb, qo, none⟩) L.points.length c3) ∧ (w2.alloc o).cell? ⟨n0, 4, none⟩ = some (.slice A4 L.routes.length c4) ∧ (w2.alloc o).cell? ⟨n0, 5, none⟩ = some (.int .i64 L.speed) ∧ (w2.alloc o).cell? ⟨n0, 6, none⟩ = some (.int .i64 L.mute) ∧ (w2.alloc o).cell? ⟨n0, 7, none⟩ = some (.int .i64 L.wait) ∧ (w2.alloc o).cell? ⟨n0, 8, none⟩ = some (.int .i64 L.cancel) ∧ (w2.alloc o).cell? ⟨n0, 9, none⟩ = some (.int .i64 L.stay) ∧ (w2.alloc o).cell? ⟨qb, qo + i * 4, none⟩ = some (.int .i64 z0) ∧ (w2.alloc o).cell? ⟨qb, qo + i * 4 + 1, none⟩ = some (.int .i64 (k1 : Int)) ∧ (w2.alloc o).cell? ⟨qb, qo + i * 4 + 2, none⟩ = some (.int .i64 (k2 : Int)) ∧ (w2.alloc o).cell? ⟨qb, qo + i * 4 + 3, none⟩ = some (.int .i64 (k3 : Int)) := fun o => ⟨(((Below.refl w2.heap.size w2).alloc (Nat.le_refl _) o).cell (p := ⟨n0, 0, none⟩) hz_w2).trans (s_w2.1), (((Below.refl w2.heap.size w2).alloc (Nat.le_refl _) o).cell (p := ⟨n0, 1, none⟩) hz_w2).trans (s_w2.2.1), (((Below.refl w2.heap.size w2).alloc (Nat.le_refl _) o).cell (p := ⟨n0, 2, none⟩) hz_w2).trans (s_w2.2.2.1), (((Below.refl w2.heap.size w2).alloc (Nat.le_refl _) o).cell (p := ⟨n0, 3, none⟩) hz_w2).trans (s_w2.2.2.2.1), (((Below.refl w2.heap.size w2).alloc (Nat.le_refl _) o).cell (p := ⟨n0, 4, none⟩) hz_w2).trans (s_w2.2.2.2.2.1), (((Below.refl w2.heap.size w2).alloc (Nat.le_refl _) o).cell (p := ⟨n0, 5, none⟩) hz_w2).trans (s_w2.2.2.2.2.2.1), (((Below.refl w2.heap.size w2).alloc (Nat.le_refl _) o).cell (p := ⟨n0, 6, none⟩) hz_w2).trans (s_w2.2.2.2.2.2.2.1), (((Below.refl w2.heap.size w2).alloc (Nat.le_refl _) o).cell (p := ⟨n0, 7, none⟩) hz_w2).trans (s_w2.2.2.2.2.2.2.2.1), (((Below.refl w2.heap.size w2).alloc (Nat.le_refl _) o).cell (p := ⟨n0, 8, none⟩) hz_w2).trans (s_w2.2.2.2.2.2.2.2.2.1), (((Below.refl w2.heap.size w2).alloc (Nat.le_refl _) o).cell (p := ⟨n0, 9, none⟩) hz_w2).trans (s_w2.2.2.2.2.2.2.2.2.2.1), (((Below.refl w2.heap.size w2).alloc (Nat.le_refl _) o).cell (p := ⟨qb, qo + i * 4, none⟩) hq_w2).trans (s_w2.2.2.2.2.2.2.2.2.2.2.1), (((Below.refl w2.heap.size w2).alloc (Nat.le_refl _) o).cell (p := ⟨qb, qo + i * 4 + 1, none⟩) hq_w2).trans (s_w2.2.2.2.2.2.2.2.2.2.2.2.1), (((Below.refl w2.heap.size w2).alloc (Nat.le_refl _) o).cell (p := ⟨qb, qo + i * 4 + 2, none⟩) hq_w2).trans (s_w2.2.2.2.2.2.2.2.2.2.2.2.2.1), (((Below.refl w2.heap.size w2).alloc (Nat.le_refl _) o).cell (p := ⟨qb, qo + i * 4 + 3, none⟩) hq_w2).trans (s_w2.2.2.2.2.2.2.2.2.2.2.2.2.2)⟩
      refine ⟨s_w2, ?_⟩
      refine anybut_take 5 322 rfl rfl (by kernel_rfl) (by kernel_rfl) (by kernel_rfl) (by kernel_rfl) (by decide) (fun _ _ _ h => h) (yields_of (by rfl) (fun w9 hS => (by obtain ⟨g0, g1, g2, g3, g4, g5, g6, g7, g8, g9, g10, g11, g12, g13⟩ := hS; go_simp; try rfl))) s_w2 ?_
      simp only [Act.put, List.setIfInBounds_toArray, List.set_cons_zero, List.set_cons_succ]
      refine anybut_take 6 323 rfl rfl (by kernel_rfl) (by kernel_rfl) (by kernel_rfl) (by kernel_rfl) (by decide) (fun _ _ _ h => h) (yields_of (by rfl) (fun w9 hS => (by obtain ⟨g0, g1, g2, g3, g4, g5, g6, g7, g8, g9, g10, g11, g12, g13⟩ := hS; go_simp; try rfl))) s_w2 ?_
      simp only [Act.put, List.setIfInBounds_toArray, List.set_cons_zero, List.set_cons_succ]
      refine AnyBut.one 7 rfl (by kernel_rfl) (by rfl) ?_
      go_simp
      refine AnyBut.one 8 rfl (by kernel_rfl) (by rfl) ?_
      go_simp
      refine AnyBut.done (by kernel_rfl) ?_
      have HXA : Below WD.heap.size WD (w2.alloc (.cells #[.int .i64 z0, .int .i64 (k1 : Int), .int .i64 (k2 : Int), .int .i64 (k3 : Int)] 41)) := hb2.alloc hb2.size _
      refine hK _ _ (Met.intro (hJ _ _ ?_))
      (repeat apply Exists.intro)
      refine ⟨?rel, rfl⟩
      case rel => exact ⟨w2.heap.size, rfl, s_a _, Row.new _ _ _, HBD.out.trans (HXA.mono HSW.out), HVD.out.up HXA, Nat.lt_of_lt_of_le hz_wd HXA.size, Nat.lt_of_lt_of_le hq_wd HXA.size⟩
    · go_simp
      have hbz : Below WD.heap.size WD (WD.alloc (.cells #[.int .i64 0, .int .i64 0, .int .i64 0, .int .i64 0] 41)) := (Below.refl _ _).alloc (Nat.le_refl _) _
      have rowz := Row.new WD 41 #[.int .i64 0, .int .i64 0, .int .i64 0, .int .i64 0]
      have s_z : (WD.alloc (.cells #[.int .i64 0, .int .i64 0, .int .i64 0, .int .i64 0] 41)).cell? ⟨n0, 0, none⟩ = some (.slice A0 L.nodes.length c0) ∧ (WD.alloc (.cells #[.int .i64 0, .int .i64 0, .int .i64 0, .int .i64 0] 41)).cell? ⟨n0, 1, none⟩ = some (.slice A1 L.secs.length c1) ∧ (WD.alloc (.cells #[.int .i64 0, .int .i64 0, .int .i64 0, .int .i64 0] 41)).cell? ⟨n0, 2, none⟩ = some (.slice A2 L.parts.length c2) ∧ (WD.alloc (.cells #[.int .i64 0, .int .i64 0, .int .i64 0, .int .i64 0] 41)).cell? ⟨n0, 3, none⟩ = some (.slice (some ⟨qb, qo, none⟩) L.points.length c3) ∧ (WD.alloc (.cells #[.int .i64 0, .int .i64 0, .int .i64 0, .int .i64 0] 41)).cell? ⟨n0, 4, none⟩ = some (.slice A4 L.routes.length c4) ∧ (WD.alloc (.cells #[.int .i64 0, .int .i64 0, .int .i64 0, .int .i64 0] 41)).cell? ⟨n0, 5, none⟩ = some (.int .i64 L.speed) ∧ (WD.alloc (.cells #[.int .i64 0, .int .i64 0, .int .i64 0, .int .i64 0] 41)).cell? ⟨n0, 6, none⟩ = some (.int .i64 L.mute) ∧ (WD.alloc (.cells #[.int .i64 0, .int .i64 0, .int .i64 0, .int .i64 0] 41)).cell? ⟨n0, 7, none⟩ = some (.int .i64 L.wait) ∧ (WD.alloc (.cells #[.int .i64 0, .int .i64 0, .int .i64 0, .int .i64 0] 41)).cell? ⟨n0, 8, none⟩ = some (.int .i64 L.cancel) ∧ (WD.alloc (.cells #[.int .i64 0, .int .i64 0, .int .i64 0, .int .i64 0] 41)).cell? ⟨n0, 9, none⟩ = some (.int .i64 L.stay) ∧ (WD.alloc (.cells #[.int .i64 0, .int .i64 0, .int .i64 0, .int .i64 0] 41)).cell? ⟨qb, qo + i * 4, none⟩ = some (.int .i64 z0) ∧ (WD.alloc (.cells #[.int .i64 0, .int .i64 0, .int .i64 0, .int .i64 0] 41)).cell? ⟨qb, qo + i * 4 + 1, none⟩ = some (.int .i64 (k1 : Int)) ∧ (WD.alloc (.cells #[.int .i64 0, .int .i64 0, .int .i64 0, .int .i64 0] 41)).cell? ⟨qb, qo + i * 4 + 2, none⟩ = some (.int .i64 (k2 : Int)) ∧ (WD.alloc (.cells #[.int .i64 0, .int .i64 0, .int .i64 0, .int .i64 0] 41)).cell? ⟨qb, qo + i * 4 + 3, none⟩ = some (.int .i64 (k3 : Int)) := ⟨(hbz.cell (p := ⟨n0, 0, none⟩) hz_wd).trans (s_wd.1), (hbz.cell (p := ⟨n0, 1, none⟩) hz_wd).trans (s_wd.2.1), (hbz.cell (p := ⟨n0, 2, none⟩) hz_wd).trans (s_wd.2.2.1), (hbz.cell (p := ⟨n0, 3, none⟩) hz_wd).trans (s_wd.2.2.2.1), (hbz.cell (p := ⟨n0, 4, none⟩) hz_wd).trans (s_wd.2.2.2.2.1), (hbz.cell (p := ⟨n0, 5, none⟩) hz_wd).trans (s_wd.2.2.2.2.2.1), (hbz.cell (p := ⟨n0, 6, none⟩) hz_wd).trans (s_wd.2.2.2.2.2.2.1), (hbz.cell (p := ⟨n0, 7, none⟩) hz_wd).trans (s_wd.2.2.2.2.2.2.2.1), (hbz.cell (p := ⟨n0, 8, none⟩) hz_wd).trans (s_wd.2.2.2.2.2.2.2.2.1), (hbz.cell (p := ⟨n0, 9, none⟩) hz_wd).trans (s_wd.2.2.2.2.2.2.2.2.2.1), (hbz.cell (p := ⟨qb, qo + i * 4, none⟩) hq_wd).trans (s_wd.2.2.2.2.2.2.2.2.2.2.1), (hbz.cell (p := ⟨qb, qo + i * 4 + 1, none⟩) hq_wd).trans (s_wd.2.2.2.2.2.2.2.2.2.2.2.1), (hbz.cell (p := ⟨qb, qo + i * 4 + 2, none⟩) hq_wd).trans (s_wd.2.2.2.2.2.2.2.2.2.2.2.2.1), (hbz.cell (p := ⟨qb, qo + i * 4 + 3, none⟩) hq_wd).trans (s_wd.2.2.2.2.2.2.2.2.2.2.2.2.2)⟩
      have hz_z := Nat.lt_of_lt_of_le hz_wd hbz.size
      have hq_z := Nat.lt_of_lt_of_le hq_wd hbz.size
      generalize WD.alloc (.cells #[.int .i64 0, .int .i64 0, .int .i64 0, .int .i64 0] 41) = WZ at *
      obtain ⟨nx, hnx⟩ : ∃ n, n = WD.heap.size := ⟨_, rfl⟩
      rw [← hnx] at rowz ⊢
      have HNX := Lib.hid hnx
      clear hnx
      refine AnyBut.one 4 rfl (by kernel_rfl) (by rfl) ?_
      go_simp
      refine (HPT.out WZ hbz).mono ?_; rintro e w2 ⟨rfl, hb2⟩
      have s_w2 : w2.cell? ⟨n0, 0, none⟩ = some (.slice A0 L.nodes.length c0) ∧ w2.cell? ⟨n0, 1, none⟩ = some (.slice A1 L.secs.length c1) ∧ w2.cell? ⟨n0, 2, none⟩ = some (.slice A2 L.parts.length c2) ∧ w2.cell? ⟨n0, 3, none⟩ = some (.slice (some ⟨qb, qo, none⟩) L.points.length c3) ∧ w2.cell? ⟨n0, 4, none⟩ = some (.slice A4 L.routes.length c4) ∧ w2.cell? ⟨n0, 5, none⟩ = some (.int .i64 L.speed) ∧ w2.cell? ⟨n0, 6, none⟩ = some (.int .i64 L.mute) ∧ w2.cell? ⟨n0, 7, none⟩ = some (.int .i64 L.wait) ∧ w2.cell? ⟨n0, 8, none⟩ = some (.int .i64 L.cancel) ∧ w2.cell? ⟨n0, 9, none⟩ = some (.int .i64 L.stay) ∧ w2.cell? ⟨qb, qo + i * 4, none⟩ = some (.int .i64 z0) ∧ w2.cell? ⟨qb, qo + i * 4 + 1, none⟩ = some (.int .i64 (k1 : Int)) ∧ w2.cell? ⟨qb, qo + i * 4 + 2, none⟩ = some (.int .i64 (k2 : Int)) ∧ w2.cell? ⟨qb, qo + i * 4 + 3, none⟩ = some (.int .i64 (k3 : Int)) := ⟨(hb2.cell (p := ⟨n0, 0, none⟩) hz_z).trans (s_z.1), (hb2.cell (p := ⟨n0, 1, none⟩) hz_z).trans (s_z.2.1), (hb2.cell (p := ⟨n0, 2, none⟩) hz_z).trans (s_z.2.2.1), (hb2.cell (p := ⟨n0, 3, none⟩) hz_z).trans (s_z.2.2.2.1), (hb2.cell (p := ⟨n0, 4, none⟩) hz_z).trans (s_z.2.2.2.2.1), (hb2.cell (p := ⟨n0, 5, none⟩) hz_z).trans (s_z.2.2.2.2.2.1), (hb2.cell (p := ⟨n0, 6, none⟩) hz_z).trans (s_z.2.2.2.2.2.2.1), (hb2.cell (p := ⟨n0, 7, none⟩) hz_z).trans (s_z.2.2.2.2.2.2.2.1), (hb2.cell (p := ⟨n0, 8, none⟩) hz_z).trans (s_z.2.2.2.2.2.2.2.2.1), (hb2.cell (p := ⟨n0, 9, none⟩) hz_z).trans (s_z.2.2.2.2.2.2.2.2.2.1), (hb2.cell (p := ⟨qb, qo + i * 4, none⟩) hq_z).trans (s_z.2.2.2.2.2.2.2.2.2.2.1), (hb2.cell (p := ⟨qb, qo + i * 4 + 1, none⟩) hq_z).trans (s_z.2.2.2.2.2.2.2.2.2.2.2.1), (hb2.cell (p := ⟨qb, qo + i * 4 + 2, none⟩) hq_z).trans (s_z.2.2.2.2.2.2.2.2.2.2.2.2.1), (hb2.cell (p := ⟨qb, qo + i * 4 + 3, none⟩) hq_z).trans (s_z.2.2.2.2.2.2.2.2.2.2.2.2.2)⟩
      have rz2 := Below.row hb2 rowz rowz.lt
      have HB2Z : Below WD.heap.size WD w2 := hbz.trans (hb2.mono hbz.size)
      refine ⟨s_w2, ?_⟩
      refine anybut_take 5 322 rfl rfl (by kernel_rfl) (by kernel_rfl) (by kernel_rfl) (by kernel_rfl) (by decide) (fun _ _ _ h => h) (yields_of (by rfl) (fun w9 hS => (by obtain ⟨g0, g1, g2, g3, g4, g5, g6, g7, g8, g9, g10, g11, g12, g13⟩ := hS; go_simp; try rfl))) s_w2 ?_
      simp only [Act.put, List.setIfInBounds_toArray, List.set_cons_zero, List.set_cons_succ]
      refine anybut_take 6 323 rfl rfl (by kernel_rfl) (by kernel_rfl) (by kernel_rfl) (by kernel_rfl) (by decide) (fun _ _ _ h => h) (yields_of (by rfl) (fun w9 hS => (by obtain ⟨g0, g1, g2, g3, g4, g5, g6, g7, g8, g9, g10, g11, g12, g13⟩ := hS; go_simp; try rfl))) s_w2 ?_
      simp only [Act.put, List.setIfInBounds_toArray, List.set_cons_zero, List.set_cons_succ]
      have cc0 := rz2.cell 0; have cc1 := rz2.cell 1; have cc2 := rz2.cell 2; have cc3 := rz2.cell 3
      have ff0 := rz2.frozen 0; have ff1 := rz2.frozen 1; have ff2 := rz2.frozen 2; have ff3 := rz2.frozen 3
      simp only [List.getElem?_toArray, List.getElem?_cons_zero, List.getElem?_cons_succ] at cc0 cc1 cc2 cc3
      refine AnyBut.one 8 rfl (by kernel_rfl) (by rfl) ?_
      go_simp
      refine AnyBut.done (by kernel_rfl) ?_
      have HX : Below WD.heap.size WD ((((w2.setCell ⟨nx, 0, none⟩ (.int .i64 z0)).setCell ⟨nx, 1, none⟩ (.int .i64 (k1 : Int))).setCell ⟨nx, 2, none⟩ (.int .i64 (k2 : Int))).setCell ⟨nx, 3, none⟩ (.int .i64 (k3 : Int))) :=
        (((HB2Z.setCell (Nat.le_of_eq HNX.out.symm) _).setCell (Nat.le_of_eq HNX.out.symm) _).setCell (Nat.le_of_eq HNX.out.symm) _).setCell (Nat.le_of_eq HNX.out.symm) _
      have HRF : Row ((((w2.setCell ⟨nx, 0, none⟩ (.int .i64 z0)).setCell ⟨nx, 1, none⟩ (.int .i64 (k1 : Int))).setCell ⟨nx, 2, none⟩ (.int .i64 (k2 : Int))).setCell ⟨nx, 3, none⟩ (.int .i64 (k3 : Int))) nx 41 #[.int .i64 z0, .int .i64 (k1 : Int), .int .i64 (k2 : Int), .int .i64 (k3 : Int)] :=
        (((rz2.set 0 (.int .i64 z0)).set 1 (.int .i64 (k1 : Int))).set 2 (.int .i64 (k2 : Int))).set 3 (.int .i64 (k3 : Int))
      refine hK _ _ (Met.intro (hJ _ _ ?_))
      (repeat apply Exists.intro)
      refine ⟨?rel, rfl⟩
      case rel => exact ⟨nx, rfl, ⟨(HX.cell (p := ⟨n0, 0, none⟩) hz_wd).trans (s_wd.1), (HX.cell (p := ⟨n0, 1, none⟩) hz_wd).trans (s_wd.2.1), (HX.cell (p := ⟨n0, 2, none⟩) hz_wd).trans (s_wd.2.2.1), (HX.cell (p := ⟨n0, 3, none⟩) hz_wd).trans (s_wd.2.2.2.1), (HX.cell (p := ⟨n0, 4, none⟩) hz_wd).trans (s_wd.2.2.2.2.1), (HX.cell (p := ⟨n0, 5, none⟩) hz_wd).trans (s_wd.2.2.2.2.2.1), (HX.cell (p := ⟨n0, 6, none⟩) hz_wd).trans (s_wd.2.2.2.2.2.2.1), (HX.cell (p := ⟨n0, 7, none⟩) hz_wd).trans (s_wd.2.2.2.2.2.2.2.1), (HX.cell (p := ⟨n0, 8, none⟩) hz_wd).trans (s_wd.2.2.2.2.2.2.2.2.1), (HX.cell (p := ⟨n0, 9, none⟩) hz_wd).trans (s_wd.2.2.2.2.2.2.2.2.2.1), (HX.cell (p := ⟨qb, qo + i * 4, none⟩) hq_wd).trans (s_wd.2.2.2.2.2.2.2.2.2.2.1), (HX.cell (p := ⟨qb, qo + i * 4 + 1, none⟩) hq_wd).trans (s_wd.2.2.2.2.2.2.2.2.2.2.2.1), (HX.cell (p := ⟨qb, qo + i * 4 + 2, none⟩) hq_wd).trans (s_wd.2.2.2.2.2.2.2.2.2.2.2.2.1), (HX.cell (p := ⟨qb, qo + i * 4 + 3, none⟩) hq_wd).trans (s_wd.2.2.2.2.2.2.2.2.2.2.2.2.2)⟩, HRF, HBD.out.trans (HX.mono HSW.out), HVD.out.up HX, Nat.lt_of_lt_of_le hz_wd HX.size, Nat.lt_of_lt_of_le hq_wd HX.size⟩
  case rest =>
  obtain ⟨nx, rfl, HCUT⟩ := hcut
  obtain ⟨s_3, hrx, hba3, hv3, hz_3, hq_3⟩ := HCUT.out
  have HRX := Lib.hid hrx; have HBA3 := Lib.hid hba3; have HV3 := Lib.hid hv3
  clear s_wd hz_wd hq_wd HBD HVD HPT HCUT hrx hba3 hv3
  generalize wc = W3 at *
  have x0 := HRX.out.cell 1; have x1 := HRX.out.cell 2
  simp only [List.getElem?_toArray, List.getElem?_cons_zero, List.getElem?_cons_succ] at x0 x1
  obtain ⟨y0, y1, y2, y3, y4, y5, y6, y7, y8, y9, y10, y11, y12, y13⟩ := id s_3
  obtain ⟨ps3, hlw3⟩ := HV3.out.w
  have HON : Hid (Calls Tryz.prog 54 #[.agg #[.slice A0 L.nodes.length c0, .slice A1 L.secs.length c1, .slice A2 L.parts.length c2, .slice (some ⟨qb, qo, none⟩) L.points.length c3, .slice A4 L.routes.length c4, .int .i64 L.speed, .int .i64 L.mute, .int .i64 L.wait, .int .i64 L.cancel, .int .i64 L.stay], .int .i64 (k1 : Int), .int .i64 (k2 : Int), .int .i64 (p : Int)] W3 (RetL b1 W3)) := by
    have h := refOn_any W3 _ ps3 L hlw3 HN2.out HP2.out k1 k2 p HL1.out HL2.out HPL.out
    rw [HL12.out] at h
    exact h
  have HS3 := Lib.hid s_3
  clear hlw3 s_3
  cases b1 with
  | false =>
    go_wp2_with fail
    refine HON.out.mono ?_; rintro e w4 ⟨rfl, hb4⟩
    have HB4 := Lib.hid (HBA3.out.trans (hb4.mono HBA3.out.size))
    clear hb4
    go_wp2_with fail
    go_ret
    exact ⟨rfl, HB4.out⟩
  | true =>
    go_wp2_with fail
    refine HON.out.mono ?_; rintro e w4 ⟨rfl, hb4⟩
    have HB4 := Lib.hid (HBA3.out.trans (hb4.mono HBA3.out.size))
    have s_3 := HS3.out
    have s_4 : w4.cell? ⟨n0, 0, none⟩ = some (.slice A0 L.nodes.length c0) ∧ w4.cell? ⟨n0, 1, none⟩ = some (.slice A1 L.secs.length c1) ∧ w4.cell? ⟨n0, 2, none⟩ = some (.slice A2 L.parts.length c2) ∧ w4.cell? ⟨n0, 3, none⟩ = some (.slice (some ⟨qb, qo, none⟩) L.points.length c3) ∧ w4.cell? ⟨n0, 4, none⟩ = some (.slice A4 L.routes.length c4) ∧ w4.cell? ⟨n0, 5, none⟩ = some (.int .i64 L.speed) ∧ w4.cell? ⟨n0, 6, none⟩ = some (.int .i64 L.mute) ∧ w4.cell? ⟨n0, 7, none⟩ = some (.int .i64 L.wait) ∧ w4.cell? ⟨n0, 8, none⟩ = some (.int .i64 L.cancel) ∧ w4.cell? ⟨n0, 9, none⟩ = some (.int .i64 L.stay) ∧ w4.cell? ⟨qb, qo + i * 4, none⟩ = some (.int .i64 z0) ∧ w4.cell? ⟨qb, qo + i * 4 + 1, none⟩ = some (.int .i64 (k1 : Int)) ∧ w4.cell? ⟨qb, qo + i * 4 + 2, none⟩ = some (.int .i64 (k2 : Int)) ∧ w4.cell? ⟨qb, qo + i * 4 + 3, none⟩ = some (.int .i64 (k3 : Int)) := ⟨(hb4.cell (p := ⟨n0, 0, none⟩) hz_3).trans (s_3.1), (hb4.cell (p := ⟨n0, 1, none⟩) hz_3).trans (s_3.2.1), (hb4.cell (p := ⟨n0, 2, none⟩) hz_3).trans (s_3.2.2.1), (hb4.cell (p := ⟨n0, 3, none⟩) hz_3).trans (s_3.2.2.2.1), (hb4.cell (p := ⟨n0, 4, none⟩) hz_3).trans (s_3.2.2.2.2.1), (hb4.cell (p := ⟨n0, 5, none⟩) hz_3).trans (s_3.2.2.2.2.2.1), (hb4.cell (p := ⟨n0, 6, none⟩) hz_3).trans (s_3.2.2.2.2.2.2.1), (hb4.cell (p := ⟨n0, 7, none⟩) hz_3).trans (s_3.2.2.2.2.2.2.2.1), (hb4.cell (p := ⟨n0, 8, none⟩) hz_3).trans (s_3.2.2.2.2.2.2.2.2.1), (hb4.cell (p := ⟨n0, 9, none⟩) hz_3).trans (s_3.2.2.2.2.2.2.2.2.2.1), (hb4.cell (p := ⟨qb, qo + i * 4, none⟩) hq_3).trans (s_3.2.2.2.2.2.2.2.2.2.2.1), (hb4.cell (p := ⟨qb, qo + i * 4 + 1, none⟩) hq_3).trans (s_3.2.2.2.2.2.2.2.2.2.2.2.1), (hb4.cell (p := ⟨qb, qo + i * 4 + 2, none⟩) hq_3).trans (s_3.2.2.2.2.2.2.2.2.2.2.2.2.1), (hb4.cell (p := ⟨qb, qo + i * 4 + 3, none⟩) hq_3).trans (s_3.2.2.2.2.2.2.2.2.2.2.2.2.2)⟩
    have HRX4 := Lib.hid (Below.row hb4 HRX.out HRX.out.lt)
    have HV4 := Lib.hid (HV3.out.up hb4)
    clear hb4 s_3 x0 x1 y0 y1 y2 y3 y4 y5 y6 y7 y8 y9 y10 y11 y12 y13
    have x0 := HRX4.out.cell 1; have x1 := HRX4.out.cell 3
    simp only [List.getElem?_toArray, List.getElem?_cons_zero, List.getElem?_cons_succ] at x0 x1
    obtain ⟨y0, y1, y2, y3, y4, y5, y6, y7, y8, y9, y10, y11, y12, y13⟩ := s_4
    obtain ⟨ps4, hlw4⟩ := HV4.out.w
    have HON4 : Hid (Calls Tryz.prog 54 #[.agg #[.slice A0 L.nodes.length c0, .slice A1 L.secs.length c1, .slice A2 L.parts.length c2, .slice (some ⟨qb, qo, none⟩) L.points.length c3, .slice A4 L.routes.length c4, .int .i64 L.speed, .int .i64 L.mute, .int .i64 L.wait, .int .i64 L.cancel, .int .i64 L.stay], .int .i64 (k1 : Int), .int .i64 (k3 : Int), .int .i64 (p : Int)] w4 (RetL b2 w4)) := by
      have h := refOn_any w4 _ ps4 L hlw4 HN2.out HP2.out k1 k3 p HL1.out HL3.out HPL.out
      rw [HL13.out] at h
      exact h
    clear hlw4
    go_wp2_with fail
    refine HON4.out.mono ?_; rintro e w5 ⟨rfl, hb5⟩
    have HB5 := Lib.hid (HB4.out.trans (hb5.mono HB4.out.size))
    clear hb5
    go_wp2_with fail
    go_ret
    exact ⟨by simp, HB5.out⟩


end Go.Proofs.YtagkgejdammflaaGreat
