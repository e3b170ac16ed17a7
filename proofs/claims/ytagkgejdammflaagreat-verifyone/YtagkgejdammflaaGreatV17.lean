/- Of the document: rules 6, 8, 11. -/
import Derived.Test.YtagkgejdammflaaGreatV16
namespace Go.Proofs.YtagkgejdammflaaGreat
open Go.RowKit Fl
set_option maxRecDepth 100000

set_option maxHeartbeats 8000000 in
theorem holds6 (w : World) (v : Value) (L : Lay) (p : Nat) (h : LayV w w.heap.size v L) (hp : p < L.secs.length) : Calls Tryz.prog 26 #[v, .int .i64 6, .int .i64 p] w (RetL (decide (L.speed ≤ L.secs[p].1)) w) := by
  have HV0 := Lib.hid h
  obtain ⟨vN, vS, vP, vQ, vR, ps, rfl, hd⟩ := h
  obtain ⟨⟨A0, c0, rfl⟩, ⟨A1, c1, rfl⟩, ⟨A2, c2, rfl⟩, ⟨A3, c3, rfl⟩, ⟨A4, c4, rfl⟩⟩ := hd.slices
  have hbn := (Below.refl w.heap.size w).alloc (Nat.le_refl _) (.cells #[.slice A0 L.nodes.length c0, .slice A1 L.secs.length c1, .slice A2 L.parts.length c2, .slice A3 L.points.length c3, .slice A4 L.routes.length c4, .int .i64 L.speed, .int .i64 L.mute, .int .i64 L.wait, .int .i64 L.cancel, .int .i64 L.stay] 33)
  have HBA := Lib.hid hbn
  have HRA := Lib.hid (Row.new w 33 #[.slice A0 L.nodes.length c0, .slice A1 L.secs.length c1, .slice A2 L.parts.length c2, .slice A3 L.points.length c3, .slice A4 L.routes.length c4, .int .i64 L.speed, .int .i64 L.mute, .int .i64 L.wait, .int .i64 L.cancel, .int .i64 L.stay])
  have HVA := Lib.hid (HV0.out.up hbn)
  have HDA := Lib.hid (hd.mono hbn.size (fun _ hp => hbn.cell hp))
  clear hbn hd HV0
  obtain ⟨A', c', hv, hx⟩ := HDA.out.s
  obtain ⟨sb, so, hA, hsb, hc⟩ := hx (by omega)
  injection hv with e1 _ e3
  subst e1 e3
  subst hA
  obtain ⟨q0, q1, q2⟩ := hc p hp
  have hi2 : (p : Int) < (L.secs.length : Int) := by omega
  have hi3 : (0 : Int) ≤ (p : Int) := by omega
  obtain ⟨B, hB⟩ : ∃ B, B = decide (L.speed ≤ L.secs[p].1) := ⟨_, rfl⟩
  rw [← hB]
  clear HVA HDA hx hc hsb
  by_cases a : L.speed ≤ L.secs[p].1
  · have HR : Hid (B = true) := by show _ = _; rw [hB]; exact decide_eq_true a
    clear hB
    generalize L.secs[p] = z at *
    obtain ⟨ln, za, zb⟩ := z
    simp only at q0 q1 q2 a
    go_enter Tryz.func26, Tryz.ntmps26
    go_upto_region 1 with (fail)
    obtain ⟨n0, hn0⟩ : ∃ n, n = w.heap.size := ⟨_, rfl⟩
    rw [← hn0] at HRA ⊢
    clear hn0
    generalize w.alloc (.cells #[.slice A0 L.nodes.length c0, .slice (some ⟨sb, so, none⟩) L.secs.length c1, .slice A2 L.parts.length c2, .slice A3 L.points.length c3, .slice A4 L.routes.length c4, .int .i64 L.speed, .int .i64 L.mute, .int .i64 L.wait, .int .i64 L.cancel, .int .i64 L.stay] 33) = W0 at *
    have l1 : W0.cell? ⟨n0, 1, none⟩ = some (.slice (some ⟨sb, so, none⟩) L.secs.length c1) := by have h := HRA.out.cell 1; simpa using h
    have l5 : W0.cell? ⟨n0, 5, none⟩ = some (.int .i64 L.speed) := by have h := HRA.out.cell 5; simpa using h
    clear HRA
    go_upto_region 19 with (fail)
    go_quiet (fail)
    go_wp2_with fail
    go_ret
    exact ⟨ret_bool HR.out.symm, below_drewN HBA.out _⟩
  · have HR : Hid (B = false) := by show _ = _; rw [hB]; exact decide_eq_false a
    clear hB
    generalize L.secs[p] = z at *
    obtain ⟨ln, za, zb⟩ := z
    simp only at q0 q1 q2 a
    go_enter Tryz.func26, Tryz.ntmps26
    go_upto_region 1 with (fail)
    obtain ⟨n0, hn0⟩ : ∃ n, n = w.heap.size := ⟨_, rfl⟩
    rw [← hn0] at HRA ⊢
    clear hn0
    generalize w.alloc (.cells #[.slice A0 L.nodes.length c0, .slice (some ⟨sb, so, none⟩) L.secs.length c1, .slice A2 L.parts.length c2, .slice A3 L.points.length c3, .slice A4 L.routes.length c4, .int .i64 L.speed, .int .i64 L.mute, .int .i64 L.wait, .int .i64 L.cancel, .int .i64 L.stay] 33) = W0 at *
    have l1 : W0.cell? ⟨n0, 1, none⟩ = some (.slice (some ⟨sb, so, none⟩) L.secs.length c1) := by have h := HRA.out.cell 1; simpa using h
    have l5 : W0.cell? ⟨n0, 5, none⟩ = some (.int .i64 L.speed) := by have h := HRA.out.cell 5; simpa using h
    clear HRA
    go_upto_region 19 with (fail)
    go_quiet (fail)
    go_wp2_with fail
    go_ret
    exact ⟨ret_bool HR.out.symm, below_drewN HBA.out _⟩

set_option maxHeartbeats 8000000 in
theorem holds8 (w : World) (v : Value) (L : Lay) (p : Int) (h : LayV w w.heap.size v L) (hL : Fits L) : Calls Tryz.prog 26 #[v, .int .i64 8, .int .i64 p] w (RetL (inB ((endsL L.secs p).length : Int) 1 3) w) := by
  have HV0 := Lib.hid h
  obtain ⟨vN, vS, vP, vQ, vR, ps, rfl, hd⟩ := h
  obtain ⟨⟨A0, c0, rfl⟩, ⟨A1, c1, rfl⟩, ⟨A2, c2, rfl⟩, ⟨A3, c3, rfl⟩, ⟨A4, c4, rfl⟩⟩ := hd.slices
  have hbn := (Below.refl w.heap.size w).alloc (Nat.le_refl _) (.cells #[.slice A0 L.nodes.length c0, .slice A1 L.secs.length c1, .slice A2 L.parts.length c2, .slice A3 L.points.length c3, .slice A4 L.routes.length c4, .int .i64 L.speed, .int .i64 L.mute, .int .i64 L.wait, .int .i64 L.cancel, .int .i64 L.stay] 33)
  have HBA := Lib.hid hbn
  have HRA := Lib.hid (Row.new w 33 #[.slice A0 L.nodes.length c0, .slice A1 L.secs.length c1, .slice A2 L.parts.length c2, .slice A3 L.points.length c3, .slice A4 L.routes.length c4, .int .i64 L.speed, .int .i64 L.mute, .int .i64 L.wait, .int .i64 L.cancel, .int .i64 L.stay])
  have HVA := Lib.hid (HV0.out.up hbn)
  have HDA := Lib.hid (hd.mono hbn.size (fun _ hp => hbn.cell hp))
  clear hbn hd HV0
  clear HDA
  have HL := Lib.hid hL
  have hel := endsL_le L hL p
  have HF : Hid (inB ((endsL L.secs p).length : Int) 1 3 = decide (1 ≤ ((endsL L.secs p).length : Int) ∧ ((endsL L.secs p).length : Int) ≤ 3)) := rfl
  rw [HF.out]
  obtain ⟨B, hB⟩ : ∃ B, B = decide (1 ≤ ((endsL L.secs p).length : Int) ∧ ((endsL L.secs p).length : Int) ≤ 3) := ⟨_, rfl⟩
  rw [← hB]
  clear hL
  by_cases a : 1 ≤ ((endsL L.secs p).length : Int)
  · by_cases b : ((endsL L.secs p).length : Int) ≤ 3
    · have HR : Hid (B = true) := by show _ = _; rw [hB]; exact decide_eq_true ⟨a, b⟩
      clear hB HF
      go_enter Tryz.func26, Tryz.ntmps26
      go_upto_region 1 with (fail)
      obtain ⟨n0, hn0⟩ : ∃ n, n = w.heap.size := ⟨_, rfl⟩
      rw [← hn0] at HRA ⊢
      clear hn0
      generalize w.alloc (.cells #[.slice A0 L.nodes.length c0, .slice A1 L.secs.length c1, .slice A2 L.parts.length c2, .slice A3 L.points.length c3, .slice A4 L.routes.length c4, .int .i64 L.speed, .int .i64 L.mute, .int .i64 L.wait, .int .i64 L.cancel, .int .i64 L.stay] 33) = W0 at *
      have l0 : W0.cell? ⟨n0, 0, none⟩ = some (.slice A0 L.nodes.length c0) := by have h := HRA.out.cell 0; simpa using h
      have l1 : W0.cell? ⟨n0, 1, none⟩ = some (.slice A1 L.secs.length c1) := by have h := HRA.out.cell 1; simpa using h
      have l2 : W0.cell? ⟨n0, 2, none⟩ = some (.slice A2 L.parts.length c2) := by have h := HRA.out.cell 2; simpa using h
      have l3 : W0.cell? ⟨n0, 3, none⟩ = some (.slice A3 L.points.length c3) := by have h := HRA.out.cell 3; simpa using h
      have l4 : W0.cell? ⟨n0, 4, none⟩ = some (.slice A4 L.routes.length c4) := by have h := HRA.out.cell 4; simpa using h
      have l5 : W0.cell? ⟨n0, 5, none⟩ = some (.int .i64 L.speed) := by have h := HRA.out.cell 5; simpa using h
      have l6 : W0.cell? ⟨n0, 6, none⟩ = some (.int .i64 L.mute) := by have h := HRA.out.cell 6; simpa using h
      have l7 : W0.cell? ⟨n0, 7, none⟩ = some (.int .i64 L.wait) := by have h := HRA.out.cell 7; simpa using h
      have l8 : W0.cell? ⟨n0, 8, none⟩ = some (.int .i64 L.cancel) := by have h := HRA.out.cell 8; simpa using h
      have l9 : W0.cell? ⟨n0, 9, none⟩ = some (.int .i64 L.stay) := by have h := HRA.out.cell 9; simpa using h

      clear HRA
      go_wp2_with fail
      refine (refEnds_any W0 W0.heap.size _ L p HVA.out (Nat.le_refl _) HL.out).mono ?_; rintro e w1 ⟨v1, rfl, ho, hb⟩
      have HB1 := Lib.hid (HBA.out.trans (hb.mono HBA.out.size))
      obtain ⟨Ae, ce, hve⟩ := own_slice ho
      subst hve
      clear ho hb
      go_wp2_with fail
      go_ret
      exact ⟨ret_bool HR.out.symm, HB1.out⟩
    · have HR : Hid (B = false) := by show _ = _; rw [hB]; exact decide_eq_false (by omega)
      have b3 : (3 : Int) < ((endsL L.secs p).length : Int) := by omega
      have b4 : decide (((endsL L.secs p).length : Int) ≤ 3) = false := decide_eq_false b
      clear hB HF
      go_enter Tryz.func26, Tryz.ntmps26
      go_upto_region 1 with (fail)
      obtain ⟨n0, hn0⟩ : ∃ n, n = w.heap.size := ⟨_, rfl⟩
      rw [← hn0] at HRA ⊢
      clear hn0
      generalize w.alloc (.cells #[.slice A0 L.nodes.length c0, .slice A1 L.secs.length c1, .slice A2 L.parts.length c2, .slice A3 L.points.length c3, .slice A4 L.routes.length c4, .int .i64 L.speed, .int .i64 L.mute, .int .i64 L.wait, .int .i64 L.cancel, .int .i64 L.stay] 33) = W0 at *
      have l0 : W0.cell? ⟨n0, 0, none⟩ = some (.slice A0 L.nodes.length c0) := by have h := HRA.out.cell 0; simpa using h
      have l1 : W0.cell? ⟨n0, 1, none⟩ = some (.slice A1 L.secs.length c1) := by have h := HRA.out.cell 1; simpa using h
      have l2 : W0.cell? ⟨n0, 2, none⟩ = some (.slice A2 L.parts.length c2) := by have h := HRA.out.cell 2; simpa using h
      have l3 : W0.cell? ⟨n0, 3, none⟩ = some (.slice A3 L.points.length c3) := by have h := HRA.out.cell 3; simpa using h
      have l4 : W0.cell? ⟨n0, 4, none⟩ = some (.slice A4 L.routes.length c4) := by have h := HRA.out.cell 4; simpa using h
      have l5 : W0.cell? ⟨n0, 5, none⟩ = some (.int .i64 L.speed) := by have h := HRA.out.cell 5; simpa using h
      have l6 : W0.cell? ⟨n0, 6, none⟩ = some (.int .i64 L.mute) := by have h := HRA.out.cell 6; simpa using h
      have l7 : W0.cell? ⟨n0, 7, none⟩ = some (.int .i64 L.wait) := by have h := HRA.out.cell 7; simpa using h
      have l8 : W0.cell? ⟨n0, 8, none⟩ = some (.int .i64 L.cancel) := by have h := HRA.out.cell 8; simpa using h
      have l9 : W0.cell? ⟨n0, 9, none⟩ = some (.int .i64 L.stay) := by have h := HRA.out.cell 9; simpa using h

      clear HRA
      go_wp2_with fail
      refine (refEnds_any W0 W0.heap.size _ L p HVA.out (Nat.le_refl _) HL.out).mono ?_; rintro e w1 ⟨v1, rfl, ho, hb⟩
      have HB1 := Lib.hid (HBA.out.trans (hb.mono HBA.out.size))
      obtain ⟨Ae, ce, hve⟩ := own_slice ho
      subst hve
      clear ho hb
      go_wp2_with fail
      go_ret
      exact ⟨ret_bool HR.out.symm, HB1.out⟩
  · have HR : Hid (B = false) := by show _ = _; rw [hB]; exact decide_eq_false (by omega)
    clear hB HF
    go_enter Tryz.func26, Tryz.ntmps26
    go_upto_region 1 with (fail)
    obtain ⟨n0, hn0⟩ : ∃ n, n = w.heap.size := ⟨_, rfl⟩
    rw [← hn0] at HRA ⊢
    clear hn0
    generalize w.alloc (.cells #[.slice A0 L.nodes.length c0, .slice A1 L.secs.length c1, .slice A2 L.parts.length c2, .slice A3 L.points.length c3, .slice A4 L.routes.length c4, .int .i64 L.speed, .int .i64 L.mute, .int .i64 L.wait, .int .i64 L.cancel, .int .i64 L.stay] 33) = W0 at *
    have l0 : W0.cell? ⟨n0, 0, none⟩ = some (.slice A0 L.nodes.length c0) := by have h := HRA.out.cell 0; simpa using h
    have l1 : W0.cell? ⟨n0, 1, none⟩ = some (.slice A1 L.secs.length c1) := by have h := HRA.out.cell 1; simpa using h
    have l2 : W0.cell? ⟨n0, 2, none⟩ = some (.slice A2 L.parts.length c2) := by have h := HRA.out.cell 2; simpa using h
    have l3 : W0.cell? ⟨n0, 3, none⟩ = some (.slice A3 L.points.length c3) := by have h := HRA.out.cell 3; simpa using h
    have l4 : W0.cell? ⟨n0, 4, none⟩ = some (.slice A4 L.routes.length c4) := by have h := HRA.out.cell 4; simpa using h
    have l5 : W0.cell? ⟨n0, 5, none⟩ = some (.int .i64 L.speed) := by have h := HRA.out.cell 5; simpa using h
    have l6 : W0.cell? ⟨n0, 6, none⟩ = some (.int .i64 L.mute) := by have h := HRA.out.cell 6; simpa using h
    have l7 : W0.cell? ⟨n0, 7, none⟩ = some (.int .i64 L.wait) := by have h := HRA.out.cell 7; simpa using h
    have l8 : W0.cell? ⟨n0, 8, none⟩ = some (.int .i64 L.cancel) := by have h := HRA.out.cell 8; simpa using h
    have l9 : W0.cell? ⟨n0, 9, none⟩ = some (.int .i64 L.stay) := by have h := HRA.out.cell 9; simpa using h

    clear HRA
    go_wp2_with fail
    refine (refEnds_any W0 W0.heap.size _ L p HVA.out (Nat.le_refl _) HL.out).mono ?_; rintro e w1 ⟨v1, rfl, ho, hb⟩
    have HB1 := Lib.hid (HBA.out.trans (hb.mono HBA.out.size))
    obtain ⟨Ae, ce, hve⟩ := own_slice ho
    subst hve
    clear ho hb
    go_wp2_with fail
    go_ret
    exact ⟨ret_bool HR.out.symm, HB1.out⟩

set_option maxHeartbeats 8000000 in
theorem holds11 (w : World) (v : Value) (L : Lay) (p : Int) (h : LayV w w.heap.size v L) (hL : Fits L) : Calls Tryz.prog 26 #[v, .int .i64 11, .int .i64 p] w (RetL (itsPointB L p) w) := by
  have HV0 := Lib.hid h
  obtain ⟨vN, vS, vP, vQ, vR, ps, rfl, hd⟩ := h
  obtain ⟨⟨A0, c0, rfl⟩, ⟨A1, c1, rfl⟩, ⟨A2, c2, rfl⟩, ⟨A3, c3, rfl⟩, ⟨A4, c4, rfl⟩⟩ := hd.slices
  have hbn := (Below.refl w.heap.size w).alloc (Nat.le_refl _) (.cells #[.slice A0 L.nodes.length c0, .slice A1 L.secs.length c1, .slice A2 L.parts.length c2, .slice A3 L.points.length c3, .slice A4 L.routes.length c4, .int .i64 L.speed, .int .i64 L.mute, .int .i64 L.wait, .int .i64 L.cancel, .int .i64 L.stay] 33)
  have HBA := Lib.hid hbn
  have HRA := Lib.hid (Row.new w 33 #[.slice A0 L.nodes.length c0, .slice A1 L.secs.length c1, .slice A2 L.parts.length c2, .slice A3 L.points.length c3, .slice A4 L.routes.length c4, .int .i64 L.speed, .int .i64 L.mute, .int .i64 L.wait, .int .i64 L.cancel, .int .i64 L.stay])
  have HVA := Lib.hid (HV0.out.up hbn)
  have HDA := Lib.hid (hd.mono hbn.size (fun _ hp => hbn.cell hp))
  clear hbn hd HV0
  have HL := Lib.hid hL
  have HIB : Hid (itsPointB L p = if (endsL L.secs p).length = 3 then decide (ptsAt L.points p L.points.length = 1) else decide (ptsAt L.points p L.points.length = 0)) := rfl
  obtain ⟨BB, hBB⟩ : ∃ B, B = itsPointB L p := ⟨_, rfl⟩
  rw [← hBB]
  rw [← hBB] at HIB
  clear hBB hL
  go_enter Tryz.func26, Tryz.ntmps26
  go_upto_region 1 with (fail)
  obtain ⟨n0, hn0⟩ : ∃ n, n = w.heap.size := ⟨_, rfl⟩
  rw [← hn0] at HRA ⊢
  clear hn0
  generalize w.alloc (.cells #[.slice A0 L.nodes.length c0, .slice A1 L.secs.length c1, .slice A2 L.parts.length c2, .slice A3 L.points.length c3, .slice A4 L.routes.length c4, .int .i64 L.speed, .int .i64 L.mute, .int .i64 L.wait, .int .i64 L.cancel, .int .i64 L.stay] 33) = W0 at *
  have l3 : W0.cell? ⟨n0, 3, none⟩ = some (.slice A3 L.points.length c3) := by have h := HRA.out.cell 3; simpa using h

  go_wp2_with fail
  go_loopw [15, 14] (fun k q wr => ∃ j : Nat, j ≤ L.points.length ∧ k = .int .i64 j ∧ q = .int .i64 ((ptsAt L.points p j : Nat) : Int) ∧ wr = W0) (fun k _ _ => L.points.length - (intOf k).toNat)
  case atStart => exact ⟨0, Nat.zero_le _, rfl, rfl, rfl⟩
  case round =>
    obtain ⟨j, hj, rfl, rfl, hw⟩ := hrel
    have hw2 := hw.symm
    clear hw
    subst hw2
    by_cases hlt : j < L.points.length
    · obtain ⟨A', c', hv, hx⟩ := HDA.out.q
      obtain ⟨pb, po, hA, hbl, hc⟩ := hx (by omega)
      injection hv with e1 _ e3
      subst e1 e3
      subst hA
      obtain ⟨q0, q1, q2, q3⟩ := hc j hlt
      have HS := Lib.hid (ptsAt_succ (n := p) hlt)
      have hT := ptsAt_le L.points p j
      have hjI : (j : Int) < (L.points.length : Int) := by omega
      have hj100 : j < 100 := by have := HL.out.q; omega
      generalize L.points[j] = z at *
      obtain ⟨z0, z1, z2, z3⟩ := z
      simp only at q0 q1 q2 q3 HS
      obtain ⟨T, hTe⟩ : ∃ T, ptsAt L.points p j = T := ⟨_, rfl⟩
      rw [hTe] at HS hT ⊢
      have hT2 : T ≤ 100 := by have := HL.out.q; omega
      clear hc hx hTe hbl
      by_cases hz : z0 = p
      · have hz2 : (z0 == p) = true := by simpa using hz
        have HNX : Hid (ptsAt L.points p (j + 1) = T + 1) := by show _ = _; rw [HS.out, if_pos hz]
        clear hz HS
        go_wp2_with fail
        go_roundw
        case rel => exact ⟨j + 1, by omega, by go_num, by rw [HNX.out]; go_num, trivial⟩
        case measure => simp [intOf]; omega
      · have hz2 : (z0 == p) = false := by simpa using hz
        have HNX : Hid (ptsAt L.points p (j + 1) = T) := by show _ = _; rw [HS.out, if_neg hz]; rfl
        clear hz HS
        go_wp2_with fail
        go_roundw
        case rel => exact ⟨j + 1, by omega, by go_num, by rw [HNX.out], trivial⟩
        case measure => simp [intOf]; omega
    · have HJM : Hid (j = L.points.length) := by show _ = _; omega
      obtain ⟨T, hTe⟩ : ∃ T, ptsAt L.points p j = T := ⟨_, rfl⟩
      have HIT : Hid (BB = if (endsL L.secs p).length = 3 then decide (T = 1) else decide (T = 0)) := by
        show _ = _
        rw [HIB.out, ← HJM.out, hTe]
      rw [hTe]
      have hT := ptsAt_le L.points p j
      rw [hTe] at hT
      have hT2 : T ≤ 100 := by have := HL.out.q; omega
      have hel := endsL_le L HL.out p
      have l0 : W0.cell? ⟨n0, 0, none⟩ = some (.slice A0 L.nodes.length c0) := by have h := HRA.out.cell 0; simpa using h
      have l1 : W0.cell? ⟨n0, 1, none⟩ = some (.slice A1 L.secs.length c1) := by have h := HRA.out.cell 1; simpa using h
      have l2 : W0.cell? ⟨n0, 2, none⟩ = some (.slice A2 L.parts.length c2) := by have h := HRA.out.cell 2; simpa using h
      have l3 : W0.cell? ⟨n0, 3, none⟩ = some (.slice A3 L.points.length c3) := by have h := HRA.out.cell 3; simpa using h
      have l4 : W0.cell? ⟨n0, 4, none⟩ = some (.slice A4 L.routes.length c4) := by have h := HRA.out.cell 4; simpa using h
      have l5 : W0.cell? ⟨n0, 5, none⟩ = some (.int .i64 L.speed) := by have h := HRA.out.cell 5; simpa using h
      have l6 : W0.cell? ⟨n0, 6, none⟩ = some (.int .i64 L.mute) := by have h := HRA.out.cell 6; simpa using h
      have l7 : W0.cell? ⟨n0, 7, none⟩ = some (.int .i64 L.wait) := by have h := HRA.out.cell 7; simpa using h
      have l8 : W0.cell? ⟨n0, 8, none⟩ = some (.int .i64 L.cancel) := by have h := HRA.out.cell 8; simpa using h
      have l9 : W0.cell? ⟨n0, 9, none⟩ = some (.int .i64 L.stay) := by have h := HRA.out.cell 9; simpa using h
      clear hTe
      by_cases h3 : (endsL L.secs p).length = 3
      · have h33 : (((endsL L.secs p).length : Int) == 3) = true := by simp; omega
        have h34 : (((endsL L.secs p).length : Int) != 3) = false := by simp; omega
        by_cases t1 : T = 1
        · have HR : Hid (BB = true) := by show _ = _; rw [HIT.out, if_pos h3]; exact decide_eq_true t1
          have t11 : ((T : Int) == 1) = true := by simp; omega
          clear h3 t1 HIT HIB
          go_wp2_with fail
          refine (refEnds_any W0 W0.heap.size _ L p HVA.out (Nat.le_refl _) HL.out).mono ?_; rintro e w1 ⟨v1, rfl, ho, hb⟩
          have HB1 := Lib.hid (HBA.out.trans (hb.mono HBA.out.size))
          obtain ⟨Ae, ce, hve⟩ := own_slice ho
          subst hve
          clear ho hb
          go_wp2_with fail
          go_ret
          exact ⟨ret_bool HR.out.symm, HB1.out⟩
        · have HR : Hid (BB = false) := by show _ = _; rw [HIT.out, if_pos h3]; exact decide_eq_false t1
          have t11 : ((T : Int) == 1) = false := by simp; omega
          clear h3 t1 HIT HIB
          go_wp2_with fail
          refine (refEnds_any W0 W0.heap.size _ L p HVA.out (Nat.le_refl _) HL.out).mono ?_; rintro e w1 ⟨v1, rfl, ho, hb⟩
          have HB1 := Lib.hid (HBA.out.trans (hb.mono HBA.out.size))
          have HRB := Lib.hid (Below.row hb HRA.out HRA.out.lt)
          have HVB := Lib.hid (HVA.out.up hb)
          obtain ⟨Ae, ce, hve⟩ := own_slice ho
          subst hve
          clear ho hb l0 l1 l2 l3 l4 l5 l6 l7 l8 l9
          have l0 : w1.cell? ⟨n0, 0, none⟩ = some (.slice A0 L.nodes.length c0) := by have h := HRB.out.cell 0; simpa using h
          have l1 : w1.cell? ⟨n0, 1, none⟩ = some (.slice A1 L.secs.length c1) := by have h := HRB.out.cell 1; simpa using h
          have l2 : w1.cell? ⟨n0, 2, none⟩ = some (.slice A2 L.parts.length c2) := by have h := HRB.out.cell 2; simpa using h
          have l3 : w1.cell? ⟨n0, 3, none⟩ = some (.slice A3 L.points.length c3) := by have h := HRB.out.cell 3; simpa using h
          have l4 : w1.cell? ⟨n0, 4, none⟩ = some (.slice A4 L.routes.length c4) := by have h := HRB.out.cell 4; simpa using h
          have l5 : w1.cell? ⟨n0, 5, none⟩ = some (.int .i64 L.speed) := by have h := HRB.out.cell 5; simpa using h
          have l6 : w1.cell? ⟨n0, 6, none⟩ = some (.int .i64 L.mute) := by have h := HRB.out.cell 6; simpa using h
          have l7 : w1.cell? ⟨n0, 7, none⟩ = some (.int .i64 L.wait) := by have h := HRB.out.cell 7; simpa using h
          have l8 : w1.cell? ⟨n0, 8, none⟩ = some (.int .i64 L.cancel) := by have h := HRB.out.cell 8; simpa using h
          have l9 : w1.cell? ⟨n0, 9, none⟩ = some (.int .i64 L.stay) := by have h := HRB.out.cell 9; simpa using h
          go_wp2_with fail
          refine (refEnds_any w1 w1.heap.size _ L p HVB.out (Nat.le_refl _) HL.out).mono ?_; rintro e w2 ⟨v2, rfl, ho, hb⟩
          have HB2 := Lib.hid (HB1.out.trans (hb.mono HB1.out.size))
          obtain ⟨Ae2, ce2, hve2⟩ := own_slice ho
          subst hve2
          clear ho hb
          go_wp2_with fail
          go_ret
          exact ⟨ret_bool HR.out.symm, HB2.out⟩
      · have h33 : (((endsL L.secs p).length : Int) == 3) = false := by simp; omega
        have h34 : (((endsL L.secs p).length : Int) != 3) = true := by simp; omega
        by_cases t1 : T = 0
        · have HR : Hid (BB = true) := by show _ = _; rw [HIT.out, if_neg h3]; exact decide_eq_true t1
          have t11 : ((T : Int) == 0) = true := by simp; omega
          clear h3 t1 HIT HIB
          go_wp2_with fail
          refine (refEnds_any W0 W0.heap.size _ L p HVA.out (Nat.le_refl _) HL.out).mono ?_; rintro e w1 ⟨v1, rfl, ho, hb⟩
          have HB1 := Lib.hid (HBA.out.trans (hb.mono HBA.out.size))
          have HRB := Lib.hid (Below.row hb HRA.out HRA.out.lt)
          have HVB := Lib.hid (HVA.out.up hb)
          obtain ⟨Ae, ce, hve⟩ := own_slice ho
          subst hve
          clear ho hb l0 l1 l2 l3 l4 l5 l6 l7 l8 l9
          have l0 : w1.cell? ⟨n0, 0, none⟩ = some (.slice A0 L.nodes.length c0) := by have h := HRB.out.cell 0; simpa using h
          have l1 : w1.cell? ⟨n0, 1, none⟩ = some (.slice A1 L.secs.length c1) := by have h := HRB.out.cell 1; simpa using h
          have l2 : w1.cell? ⟨n0, 2, none⟩ = some (.slice A2 L.parts.length c2) := by have h := HRB.out.cell 2; simpa using h
          have l3 : w1.cell? ⟨n0, 3, none⟩ = some (.slice A3 L.points.length c3) := by have h := HRB.out.cell 3; simpa using h
          have l4 : w1.cell? ⟨n0, 4, none⟩ = some (.slice A4 L.routes.length c4) := by have h := HRB.out.cell 4; simpa using h
          have l5 : w1.cell? ⟨n0, 5, none⟩ = some (.int .i64 L.speed) := by have h := HRB.out.cell 5; simpa using h
          have l6 : w1.cell? ⟨n0, 6, none⟩ = some (.int .i64 L.mute) := by have h := HRB.out.cell 6; simpa using h
          have l7 : w1.cell? ⟨n0, 7, none⟩ = some (.int .i64 L.wait) := by have h := HRB.out.cell 7; simpa using h
          have l8 : w1.cell? ⟨n0, 8, none⟩ = some (.int .i64 L.cancel) := by have h := HRB.out.cell 8; simpa using h
          have l9 : w1.cell? ⟨n0, 9, none⟩ = some (.int .i64 L.stay) := by have h := HRB.out.cell 9; simpa using h
          go_wp2_with fail
          refine (refEnds_any w1 w1.heap.size _ L p HVB.out (Nat.le_refl _) HL.out).mono ?_; rintro e w2 ⟨v2, rfl, ho, hb⟩
          have HB2 := Lib.hid (HB1.out.trans (hb.mono HB1.out.size))
          obtain ⟨Ae2, ce2, hve2⟩ := own_slice ho
          subst hve2
          clear ho hb
          go_wp2_with fail
          go_ret
          exact ⟨ret_bool HR.out.symm, HB2.out⟩
        · have HR : Hid (BB = false) := by show _ = _; rw [HIT.out, if_neg h3]; exact decide_eq_false t1
          have t11 : ((T : Int) == 0) = false := by simp; omega
          clear h3 t1 HIT HIB
          go_wp2_with fail
          refine (refEnds_any W0 W0.heap.size _ L p HVA.out (Nat.le_refl _) HL.out).mono ?_; rintro e w1 ⟨v1, rfl, ho, hb⟩
          have HB1 := Lib.hid (HBA.out.trans (hb.mono HBA.out.size))
          have HRB := Lib.hid (Below.row hb HRA.out HRA.out.lt)
          have HVB := Lib.hid (HVA.out.up hb)
          obtain ⟨Ae, ce, hve⟩ := own_slice ho
          subst hve
          clear ho hb l0 l1 l2 l3 l4 l5 l6 l7 l8 l9
          have l0 : w1.cell? ⟨n0, 0, none⟩ = some (.slice A0 L.nodes.length c0) := by have h := HRB.out.cell 0; simpa using h
          have l1 : w1.cell? ⟨n0, 1, none⟩ = some (.slice A1 L.secs.length c1) := by have h := HRB.out.cell 1; simpa using h
          have l2 : w1.cell? ⟨n0, 2, none⟩ = some (.slice A2 L.parts.length c2) := by have h := HRB.out.cell 2; simpa using h
          have l3 : w1.cell? ⟨n0, 3, none⟩ = some (.slice A3 L.points.length c3) := by have h := HRB.out.cell 3; simpa using h
          have l4 : w1.cell? ⟨n0, 4, none⟩ = some (.slice A4 L.routes.length c4) := by have h := HRB.out.cell 4; simpa using h
          have l5 : w1.cell? ⟨n0, 5, none⟩ = some (.int .i64 L.speed) := by have h := HRB.out.cell 5; simpa using h
          have l6 : w1.cell? ⟨n0, 6, none⟩ = some (.int .i64 L.mute) := by have h := HRB.out.cell 6; simpa using h
          have l7 : w1.cell? ⟨n0, 7, none⟩ = some (.int .i64 L.wait) := by have h := HRB.out.cell 7; simpa using h
          have l8 : w1.cell? ⟨n0, 8, none⟩ = some (.int .i64 L.cancel) := by have h := HRB.out.cell 8; simpa using h
          have l9 : w1.cell? ⟨n0, 9, none⟩ = some (.int .i64 L.stay) := by have h := HRB.out.cell 9; simpa using h
          go_wp2_with fail
          refine (refEnds_any w1 w1.heap.size _ L p HVB.out (Nat.le_refl _) HL.out).mono ?_; rintro e w2 ⟨v2, rfl, ho, hb⟩
          have HB2 := Lib.hid (HB1.out.trans (hb.mono HB1.out.size))
          obtain ⟨Ae2, ce2, hve2⟩ := own_slice ho
          subst hve2
          clear ho hb
          go_wp2_with fail
          go_ret
          exact ⟨ret_bool HR.out.symm, HB2.out⟩


end Go.Proofs.YtagkgejdammflaaGreat
