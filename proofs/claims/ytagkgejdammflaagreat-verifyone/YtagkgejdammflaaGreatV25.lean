/- Of the document: rule 12, at a node at which two ends are. -/
import Derived.Test.YtagkgejdammflaaGreatV24
namespace Go.Proofs.YtagkgejdammflaaGreat
open Go.RowKit Fl
set_option maxRecDepth 100000

set_option maxHeartbeats 8000000 in
theorem holds12b (w : World) (v : Value) (L : Lay) (p : Nat) (h : LayV w w.heap.size v L) (hL : Fits L) (hN : Noded L) (hP : Placed L) (hp : p < L.nodes.length) (hI : itsPointB L p = true) (h2 : (endsL L.secs p).length = 2) : Calls Tryz.prog 26 #[v, .int .i64 12, .int .i64 (p : Nat)] w (RetL (goesB L p) w) := by
  have HV0 := Lib.hid h
  obtain ⟨vN, vS, vP, vQ, vR, ps, rfl, hd⟩ := h
  obtain ⟨⟨A0, c0, rfl⟩, ⟨A1, c1, rfl⟩, ⟨A2, c2, rfl⟩, ⟨A3, c3, rfl⟩, ⟨A4, c4, rfl⟩⟩ := hd.slices
  have hbn := (Below.refl w.heap.size w).alloc (Nat.le_refl _) (.cells #[.slice A0 L.nodes.length c0, .slice A1 L.secs.length c1, .slice A2 L.parts.length c2, .slice A3 L.points.length c3, .slice A4 L.routes.length c4, .int .i64 L.speed, .int .i64 L.mute, .int .i64 L.wait, .int .i64 L.cancel, .int .i64 L.stay] 33)
  have HBA := Lib.hid hbn
  have HRA := Lib.hid (Row.new w 33 #[.slice A0 L.nodes.length c0, .slice A1 L.secs.length c1, .slice A2 L.parts.length c2, .slice A3 L.points.length c3, .slice A4 L.routes.length c4, .int .i64 L.speed, .int .i64 L.mute, .int .i64 L.wait, .int .i64 L.cancel, .int .i64 L.stay])
  have HVA := Lib.hid (HV0.out.up hbn)
  have HDA := Lib.hid (hd.mono hbn.size (fun _ hp => hbn.cell hp))
  clear hbn hd HV0
  have HL := Lib.hid hL
  have hel := endsL_le L hL (p : Int)
  clear HDA
  have hs2 : (secsAt L (p : Int)).length = 2 := by rw [secsAt_len]; exact h2
  have HG : Hid (goesB L p = leadsB L ((secsAt L p).getD 0 0) p ((secsAt L p).getD 1 0)) := goes_two (pt_not hI (by omega)) hs2
  rw [HG.out, secsAt_get L p 0 (by omega), secsAt_get L p 1 (by omega)]
  obtain ⟨k0, hk0, hl0⟩ := secsAt_mem (L := L) (n := (p : Int)) (s := (endsL L.secs p)[0].1) (by unfold secsAt; exact List.mem_map.2 ⟨_, List.getElem_mem _, rfl⟩)
  obtain ⟨k1, hk1, hl1⟩ := secsAt_mem (L := L) (n := (p : Int)) (s := (endsL L.secs p)[1].1) (by unfold secsAt; exact List.mem_map.2 ⟨_, List.getElem_mem _, rfl⟩)
  rw [hk0, hk1]
  have h33 : (((endsL L.secs p).length : Int) == 3) = false := by simp; omega
  have h12 : ¬ (((endsL L.secs p).length : Int) < 2) := by omega
  have h13 : (2 : Int) ≤ ((endsL L.secs p).length : Int) := by omega
  have h14 : decide (((endsL L.secs p).length : Int) < 2) = false := decide_eq_false (by omega)
  have H2 := Lib.hid h2
  have HN2 := Lib.hid hN; have HP2 := Lib.hid hP
  have HPL := Lib.hid hp
  have HL0 := Lib.hid hl0; have HL1 := Lib.hid hl1
  have HK0 : Hid (∀ h : 0 < (endsL L.secs p).length, (endsL L.secs p)[0].1 = (k0 : Int)) := fun _ => hk0
  have HK1 : Hid (∀ h : 1 < (endsL L.secs p).length, (endsL L.secs p)[1].1 = (k1 : Int)) := fun _ => hk1
  have HI0 : Hid ((0 : Int) < ((endsL L.secs p).length : Int) ∧ (1 : Int) < ((endsL L.secs p).length : Int)) := ⟨by omega, by omega⟩
  clear hL hN hP hI HG h2 hs2 hp hl0 hl1 hk0 hk1
  go_enter Tryz.func26, Tryz.ntmps26
  go_upto_region 1 with (fail)
  obtain ⟨n0, hn0⟩ : ∃ n, n = w.heap.size := ⟨_, rfl⟩
  rw [← hn0] at HRA ⊢
  clear hn0
  generalize w.alloc (.cells #[.slice A0 L.nodes.length c0, .slice A1 L.secs.length c1, .slice A2 L.parts.length c2, .slice A3 L.points.length c3, .slice A4 L.routes.length c4, .int .i64 L.speed, .int .i64 L.mute, .int .i64 L.wait, .int .i64 L.cancel, .int .i64 L.stay] 33) = W0 at *
  have l0 : W0.cell? ⟨n0, 0, none⟩ = some (.slice A0 L.nodes.length c0) := by have h := HRA.out.cell 0; simpa using h
  have l1 : W0.cell? ⟨n0, 1, none⟩ = some (.slice A1 L.secs.length c1) := by have h := HRA.out.cell 1; simpa using h
  have l2 : W0.cell? ⟨n0, 2, none⟩ = some (.slice A2 L.parts.length c2) := by have h := HRA.out.cell 2; simpa using h
  have l3 : W0.cell? ⟨n0, 3, none⟩ = some (.slice A3 L.points.length c3) := by have h := HRA.out.cell 3; simpa using h
  have l4 : W0.cell? ⟨n0, 4, none⟩ = some (.slice A4 L.routes.length c4) := by have h := HRA.out.cell 4; simpa using h
  have l5 : W0.cell? ⟨n0, 5, none⟩ = some (.int .i64 L.speed) := by have h := HRA.out.cell 5; simpa using h
  have l6 : W0.cell? ⟨n0, 6, none⟩ = some (.int .i64 L.mute) := by have h := HRA.out.cell 6; simpa using h
  have l7 : W0.cell? ⟨n0, 7, none⟩ = some (.int .i64 L.wait) := by have h := HRA.out.cell 7; simpa using h
  have l8 : W0.cell? ⟨n0, 8, none⟩ = some (.int .i64 L.cancel) := by have h := HRA.out.cell 8; simpa using h
  have l9 : W0.cell? ⟨n0, 9, none⟩ = some (.int .i64 L.stay) := by have h := HRA.out.cell 9; simpa using h

  go_wp2_with fail
  refine (refEnds_any W0 W0.heap.size _ L (p : Int) HVA.out (Nat.le_refl _) HL.out).mono ?_; rintro e w1 ⟨v1, rfl, ho, hb⟩
  have HB1 := Lib.hid (HBA.out.trans (hb.mono HBA.out.size))
  have HRB := Lib.hid (Below.row hb HRA.out HRA.out.lt)
  have HVB := Lib.hid (HVA.out.up hb)
  have HPR := Lib.hid (Prs.of_own ho)
  obtain ⟨Ae, ce, hve⟩ := own_slice ho
  subst hve
  clear ho hb l0 l1 l2 l3 l4 l5 l6 l7 l8 l9 HRA HVA HBA
  go_upto_region 52 with (fail)
  obtain ⟨eb, eo, hAe, hebl, e0, _⟩ := HPR.out.at 0 (by have := H2.out; omega)
  obtain ⟨eb', eo', hAe', _, e1, _⟩ := HPR.out.at 1 (by have := H2.out; omega)
  subst hAe
  injection hAe' with hAe'
  injection hAe' with z1 z2
  subst z1 z2
  rw [HK0.out (by have := H2.out; omega)] at e0
  rw [HK1.out (by have := H2.out; omega)] at e1
  simp only [Nat.zero_mul, Nat.add_zero, Nat.one_mul] at e0 e1
  obtain ⟨s0, hs0⟩ : ∃ s : Int, s = (k0 : Int) := ⟨_, rfl⟩
  obtain ⟨s1, hs1⟩ : ∃ s : Int, s = (k1 : Int) := ⟨_, rfl⟩
  obtain ⟨ps, hlw⟩ := (HVB.out.mono (Nat.le_refl _) (fun _ _ => rfl) : LayV w1.drew w1.drew.heap.size _ L).w
  have HON : Hid (Calls Tryz.prog 54 #[.agg #[.slice A0 L.nodes.length c0, .slice A1 L.secs.length c1, .slice A2 L.parts.length c2, .slice A3 L.points.length c3, .slice A4 L.routes.length c4, .int .i64 L.speed, .int .i64 L.mute, .int .i64 L.wait, .int .i64 L.cancel, .int .i64 L.stay], .int .i64 s0, .int .i64 s1, .int .i64 (p : Int)] w1.drew (RetL (leadsB L s0 p s1) w1.drew)) := by
    rw [hs0, hs1]
    exact refOn_any w1.drew _ ps L hlw HN2.out HP2.out k0 k1 p HL0.out HL1.out HPL.out
  rw [← hs0] at e0
  rw [← hs1] at e1
  have s_wd : w1.drew.cell? ⟨n0, 0, none⟩ = some (.slice A0 L.nodes.length c0) ∧ w1.drew.cell? ⟨n0, 1, none⟩ = some (.slice A1 L.secs.length c1) ∧ w1.drew.cell? ⟨n0, 2, none⟩ = some (.slice A2 L.parts.length c2) ∧ w1.drew.cell? ⟨n0, 3, none⟩ = some (.slice A3 L.points.length c3) ∧ w1.drew.cell? ⟨n0, 4, none⟩ = some (.slice A4 L.routes.length c4) ∧ w1.drew.cell? ⟨n0, 5, none⟩ = some (.int .i64 L.speed) ∧ w1.drew.cell? ⟨n0, 6, none⟩ = some (.int .i64 L.mute) ∧ w1.drew.cell? ⟨n0, 7, none⟩ = some (.int .i64 L.wait) ∧ w1.drew.cell? ⟨n0, 8, none⟩ = some (.int .i64 L.cancel) ∧ w1.drew.cell? ⟨n0, 9, none⟩ = some (.int .i64 L.stay) ∧ w1.drew.cell? ⟨eb, eo, none⟩ = some (.int .i64 s0) ∧ w1.drew.cell? ⟨eb, eo + 2, none⟩ = some (.int .i64 s1) := ⟨(by have h := HRB.out.cell 0; simpa using h), (by have h := HRB.out.cell 1; simpa using h), (by have h := HRB.out.cell 2; simpa using h), (by have h := HRB.out.cell 3; simpa using h), (by have h := HRB.out.cell 4; simpa using h), (by have h := HRB.out.cell 5; simpa using h), (by have h := HRB.out.cell 6; simpa using h), (by have h := HRB.out.cell 7; simpa using h), (by have h := HRB.out.cell 8; simpa using h), (by have h := HRB.out.cell 9; simpa using h), e0, e1⟩
  have hz_wd : n0 < w1.drew.heap.size := HRB.out.lt
  have hq_wd : eb < w1.drew.heap.size := hebl
  have HBD : Hid (Below w.heap.size w w1.drew) := below_drewN HB1.out 1
  obtain ⟨bb, hbb⟩ : ∃ b, b = leadsB L s0 p s1 := ⟨_, rfl⟩
  rw [← hbb] at HON
  have HBBX : Hid (bb = leadsB L (k0 : Int) (p : Int) (k1 : Int)) := by show _ = _; rw [hbb, hs0, hs1]
  obtain ⟨i0, i1⟩ := HI0.out
  have i2 : 0 < (endsL L.secs p).length := by omega
  have i3 : 1 < (endsL L.secs p).length := by omega
  clear hs0 hs1 e0 e1 hlw HRB HVB HPR hbb hebl
  go_region_held3 (fun w' => w'.cell? ⟨n0, 0, none⟩ = some (.slice A0 L.nodes.length c0) ∧ w'.cell? ⟨n0, 1, none⟩ = some (.slice A1 L.secs.length c1) ∧ w'.cell? ⟨n0, 2, none⟩ = some (.slice A2 L.parts.length c2) ∧ w'.cell? ⟨n0, 3, none⟩ = some (.slice A3 L.points.length c3) ∧ w'.cell? ⟨n0, 4, none⟩ = some (.slice A4 L.routes.length c4) ∧ w'.cell? ⟨n0, 5, none⟩ = some (.int .i64 L.speed) ∧ w'.cell? ⟨n0, 6, none⟩ = some (.int .i64 L.mute) ∧ w'.cell? ⟨n0, 7, none⟩ = some (.int .i64 L.wait) ∧ w'.cell? ⟨n0, 8, none⟩ = some (.int .i64 L.cancel) ∧ w'.cell? ⟨n0, 9, none⟩ = some (.int .i64 L.stay) ∧ w'.cell? ⟨eb, eo, none⟩ = some (.int .i64 s0) ∧ w'.cell? ⟨eb, eo + 2, none⟩ = some (.int .i64 s1)) (first | exact s_w2 | exact s_wd) (first | (go_at_call 54; (with_reducible refine (HON.out).mono ?_); rintro e w2 ⟨rfl, hb2⟩; have s_w2 : w2.cell? ⟨n0, 0, none⟩ = some (.slice A0 L.nodes.length c0) ∧ w2.cell? ⟨n0, 1, none⟩ = some (.slice A1 L.secs.length c1) ∧ w2.cell? ⟨n0, 2, none⟩ = some (.slice A2 L.parts.length c2) ∧ w2.cell? ⟨n0, 3, none⟩ = some (.slice A3 L.points.length c3) ∧ w2.cell? ⟨n0, 4, none⟩ = some (.slice A4 L.routes.length c4) ∧ w2.cell? ⟨n0, 5, none⟩ = some (.int .i64 L.speed) ∧ w2.cell? ⟨n0, 6, none⟩ = some (.int .i64 L.mute) ∧ w2.cell? ⟨n0, 7, none⟩ = some (.int .i64 L.wait) ∧ w2.cell? ⟨n0, 8, none⟩ = some (.int .i64 L.cancel) ∧ w2.cell? ⟨n0, 9, none⟩ = some (.int .i64 L.stay) ∧ w2.cell? ⟨eb, eo, none⟩ = some (.int .i64 s0) ∧ w2.cell? ⟨eb, eo + 2, none⟩ = some (.int .i64 s1) := ⟨(hb2.cell (p := ⟨n0, 0, none⟩) hz_wd).trans (s_wd.1), (hb2.cell (p := ⟨n0, 1, none⟩) hz_wd).trans (s_wd.2.1), (hb2.cell (p := ⟨n0, 2, none⟩) hz_wd).trans (s_wd.2.2.1), (hb2.cell (p := ⟨n0, 3, none⟩) hz_wd).trans (s_wd.2.2.2.1), (hb2.cell (p := ⟨n0, 4, none⟩) hz_wd).trans (s_wd.2.2.2.2.1), (hb2.cell (p := ⟨n0, 5, none⟩) hz_wd).trans (s_wd.2.2.2.2.2.1), (hb2.cell (p := ⟨n0, 6, none⟩) hz_wd).trans (s_wd.2.2.2.2.2.2.1), (hb2.cell (p := ⟨n0, 7, none⟩) hz_wd).trans (s_wd.2.2.2.2.2.2.2.1), (hb2.cell (p := ⟨n0, 8, none⟩) hz_wd).trans (s_wd.2.2.2.2.2.2.2.2.1), (hb2.cell (p := ⟨n0, 9, none⟩) hz_wd).trans (s_wd.2.2.2.2.2.2.2.2.2.1), (hb2.cell (p := ⟨eb, eo, none⟩) hq_wd).trans (s_wd.2.2.2.2.2.2.2.2.2.2.1), (hb2.cell (p := ⟨eb, eo + 2, none⟩) hq_wd).trans (s_wd.2.2.2.2.2.2.2.2.2.2.2)⟩; have HB2 : Hid (Below w.heap.size w w2) := HBD.out.trans (hb2.mono HBD.out.size); clear hb2))
  clear s_wd s_w2
  go_wp2_with fail
  go_ret
  exact ⟨ret_bool (by rw [HBBX.out]), HB2.out⟩


end Go.Proofs.YtagkgejdammflaaGreat
