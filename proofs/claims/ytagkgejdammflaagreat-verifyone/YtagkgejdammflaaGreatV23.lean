/- Of the document: the second part of rule 15. -/
import Derived.Test.YtagkgejdammflaaGreatV18
import Derived.Test.YtagkgejdammflaaGreatR7
namespace Go.Proofs.YtagkgejdammflaaGreat
open Go.RowKit Fl
set_option maxRecDepth 100000

set_option maxHeartbeats 8000000 in
theorem part15 (w : World) (v : Value) (L : Lay) (p : Nat) (h : LayV w w.heap.size v L) (hp : p < L.routes.length) (hL : Fits L) (hr : ∀ r ∈ L.routes, r.length ≤ 1000) : Calls Tryz.prog 27 #[v, .int .i64 15, .int .i64 p] w (RetL (decide (L.routes[p].length ≤ 12) && (pathR L L.routes[p]).isSome) w) := by
  have HV0 := Lib.hid h
  obtain ⟨vN, vS, vP, vQ, vR, ps, rfl, hd⟩ := h
  obtain ⟨⟨A0, c0, rfl⟩, ⟨A1, c1, rfl⟩, ⟨A2, c2, rfl⟩, ⟨A3, c3, rfl⟩, ⟨A4, c4, rfl⟩⟩ := hd.slices
  have hbn := (Below.refl w.heap.size w).alloc (Nat.le_refl _) (.cells #[.slice A0 L.nodes.length c0, .slice A1 L.secs.length c1, .slice A2 L.parts.length c2, .slice A3 L.points.length c3, .slice A4 L.routes.length c4, .int .i64 L.speed, .int .i64 L.mute, .int .i64 L.wait, .int .i64 L.cancel, .int .i64 L.stay] 33)
  have HBA := Lib.hid hbn
  have HRA := Lib.hid (Row.new w 33 #[.slice A0 L.nodes.length c0, .slice A1 L.secs.length c1, .slice A2 L.parts.length c2, .slice A3 L.points.length c3, .slice A4 L.routes.length c4, .int .i64 L.speed, .int .i64 L.mute, .int .i64 L.wait, .int .i64 L.cancel, .int .i64 L.stay])
  have HVA := Lib.hid (HV0.out.up hbn)
  have HDA := Lib.hid (hd.mono hbn.size (fun _ hp => hbn.cell hp))
  clear hbn hd HV0
  have hrl := hr _ (List.getElem_mem hp)
  obtain ⟨pb, po, Ar, cr, hA, hpbl, q0, hrd⟩ := row_at HDA.out.r p hp
  subst hA
  have hpI : (p : Int) < (L.routes.length : Int) := by omega
  have hp0 : (0 : Int) ≤ (p : Int) := by omega
  have HL := Lib.hid hL
  generalize L.routes[p] = r at *
  have HRD := Lib.hid hrd
  have HQ0 := Lib.hid q0
  have HPBL := Lib.hid hpbl
  have HRL := Lib.hid hrl
  clear HDA hrd hpbl hr q0 hrl hL
  go_enter Tryz.func27, Tryz.ntmps27
  go_upto_region 2 with (fail)
  obtain ⟨n0, hn0⟩ : ∃ n, n = w.heap.size := ⟨_, rfl⟩
  rw [← hn0] at HRA ⊢
  clear hn0
  generalize w.alloc (.cells #[.slice A0 L.nodes.length c0, .slice A1 L.secs.length c1, .slice A2 L.parts.length c2, .slice A3 L.points.length c3, .slice (some ⟨pb, po, none⟩) L.routes.length c4, .int .i64 L.speed, .int .i64 L.mute, .int .i64 L.wait, .int .i64 L.cancel, .int .i64 L.stay] 33) = W0 at *
  obtain ⟨rl, hrle⟩ : ∃ n, n = r.length := ⟨_, rfl⟩
  have HPT0 : Hid (Calls Tryz.prog 55 #[.agg #[.slice A0 L.nodes.length c0, .slice A1 L.secs.length c1, .slice A2 L.parts.length c2, .slice A3 L.points.length c3, .slice (some ⟨pb, po, none⟩) L.routes.length c4, .int .i64 L.speed, .int .i64 L.mute, .int .i64 L.wait, .int .i64 L.cancel, .int .i64 L.stay], .slice Ar r.length cr] W0.drew (RetWayR W0.drew.heap.size (pathR L r) W0.drew)) := refPath_any W0.drew W0.drew.heap.size _ L Ar cr r (HVA.out.mono (Nat.le_refl _) (fun _ _ => rfl)) (Nat.le_refl _) HL.out (HRD.out.mono (Nat.le_refl _) (fun _ _ => rfl)) HRL.out
  rw [← hrle] at HPT0 HQ0 HRL
  have HBW := Lib.hid HBA.out
  have s_wd : W0.drew.cell? ⟨n0, 0, none⟩ = some (.slice A0 L.nodes.length c0) ∧ W0.drew.cell? ⟨n0, 1, none⟩ = some (.slice A1 L.secs.length c1) ∧ W0.drew.cell? ⟨n0, 2, none⟩ = some (.slice A2 L.parts.length c2) ∧ W0.drew.cell? ⟨n0, 3, none⟩ = some (.slice A3 L.points.length c3) ∧ W0.drew.cell? ⟨n0, 4, none⟩ = some (.slice (some ⟨pb, po, none⟩) L.routes.length c4) ∧ W0.drew.cell? ⟨n0, 5, none⟩ = some (.int .i64 L.speed) ∧ W0.drew.cell? ⟨n0, 6, none⟩ = some (.int .i64 L.mute) ∧ W0.drew.cell? ⟨n0, 7, none⟩ = some (.int .i64 L.wait) ∧ W0.drew.cell? ⟨n0, 8, none⟩ = some (.int .i64 L.cancel) ∧ W0.drew.cell? ⟨n0, 9, none⟩ = some (.int .i64 L.stay) ∧ W0.drew.cell? ⟨pb, po + p, none⟩ = some (.slice Ar rl cr) := ⟨(by have h := HRA.out.cell 0; simpa using h), (by have h := HRA.out.cell 1; simpa using h), (by have h := HRA.out.cell 2; simpa using h), (by have h := HRA.out.cell 3; simpa using h), (by have h := HRA.out.cell 4; simpa using h), (by have h := HRA.out.cell 5; simpa using h), (by have h := HRA.out.cell 6; simpa using h), (by have h := HRA.out.cell 7; simpa using h), (by have h := HRA.out.cell 8; simpa using h), (by have h := HRA.out.cell 9; simpa using h), HQ0.out⟩
  have hz_wd : n0 < W0.drew.heap.size := HRA.out.lt
  have hq_wd : pb < W0.drew.heap.size := HPBL.out
  have HB_wd : Hid (Below W0.heap.size W0 W0.drew) := below_drewN (Below.refl _ _) 1
  obtain ⟨po', hpo'⟩ : ∃ o, o = pathR L r := ⟨_, rfl⟩
  rw [← hpo'] at HPT0
  obtain ⟨ov, hov⟩ : ∃ b, b = po'.isSome := ⟨_, rfl⟩
  have HPT : Hid (Calls Tryz.prog 55 #[.agg #[.slice A0 L.nodes.length c0, .slice A1 L.secs.length c1, .slice A2 L.parts.length c2, .slice A3 L.points.length c3, .slice (some ⟨pb, po, none⟩) L.routes.length c4, .int .i64 L.speed, .int .i64 L.mute, .int .i64 L.wait, .int .i64 L.cancel, .int .i64 L.stay], .slice Ar rl cr] W0.drew fun e w' => ∃ v, e = .returned (.tuple #[v, .bool ov]) ∧ w'.ownsRow W0.drew.heap.size 124 2 v (po'.getD []).length (ncells (po'.getD [])) ∧ Below W0.drew.heap.size W0.drew w') := by rw [hov]; exact HPT0.out
  have HOVR : Hid ((pathR L r).isSome = ov) := by show _ = _; rw [hov, hpo']
  have HRLE : Hid (r.length = rl) := hrle.symm
  clear HPT0 hov hpo' hrle HVA HRD HRA HQ0 HL
  go_region_held3 (fun w' => w'.cell? ⟨n0, 0, none⟩ = some (.slice A0 L.nodes.length c0) ∧ w'.cell? ⟨n0, 1, none⟩ = some (.slice A1 L.secs.length c1) ∧ w'.cell? ⟨n0, 2, none⟩ = some (.slice A2 L.parts.length c2) ∧ w'.cell? ⟨n0, 3, none⟩ = some (.slice A3 L.points.length c3) ∧ w'.cell? ⟨n0, 4, none⟩ = some (.slice (some ⟨pb, po, none⟩) L.routes.length c4) ∧ w'.cell? ⟨n0, 5, none⟩ = some (.int .i64 L.speed) ∧ w'.cell? ⟨n0, 6, none⟩ = some (.int .i64 L.mute) ∧ w'.cell? ⟨n0, 7, none⟩ = some (.int .i64 L.wait) ∧ w'.cell? ⟨n0, 8, none⟩ = some (.int .i64 L.cancel) ∧ w'.cell? ⟨n0, 9, none⟩ = some (.int .i64 L.stay) ∧ w'.cell? ⟨pb, po + p, none⟩ = some (.slice Ar rl cr)) (first | exact s_w1 | exact s_wd) (first | (go_at_call 55; (with_reducible refine (HPT.out).mono ?_); rintro e w1 ⟨v1, rfl, ho1, hb1⟩; obtain ⟨A5, c5, hv5⟩ := own_slice ho1; subst hv5; have s_w1 : w1.cell? ⟨n0, 0, none⟩ = some (.slice A0 L.nodes.length c0) ∧ w1.cell? ⟨n0, 1, none⟩ = some (.slice A1 L.secs.length c1) ∧ w1.cell? ⟨n0, 2, none⟩ = some (.slice A2 L.parts.length c2) ∧ w1.cell? ⟨n0, 3, none⟩ = some (.slice A3 L.points.length c3) ∧ w1.cell? ⟨n0, 4, none⟩ = some (.slice (some ⟨pb, po, none⟩) L.routes.length c4) ∧ w1.cell? ⟨n0, 5, none⟩ = some (.int .i64 L.speed) ∧ w1.cell? ⟨n0, 6, none⟩ = some (.int .i64 L.mute) ∧ w1.cell? ⟨n0, 7, none⟩ = some (.int .i64 L.wait) ∧ w1.cell? ⟨n0, 8, none⟩ = some (.int .i64 L.cancel) ∧ w1.cell? ⟨n0, 9, none⟩ = some (.int .i64 L.stay) ∧ w1.cell? ⟨pb, po + p, none⟩ = some (.slice Ar rl cr) := ⟨(hb1.cell (p := ⟨n0, 0, none⟩) hz_wd).trans (s_wd.1), (hb1.cell (p := ⟨n0, 1, none⟩) hz_wd).trans (s_wd.2.1), (hb1.cell (p := ⟨n0, 2, none⟩) hz_wd).trans (s_wd.2.2.1), (hb1.cell (p := ⟨n0, 3, none⟩) hz_wd).trans (s_wd.2.2.2.1), (hb1.cell (p := ⟨n0, 4, none⟩) hz_wd).trans (s_wd.2.2.2.2.1), (hb1.cell (p := ⟨n0, 5, none⟩) hz_wd).trans (s_wd.2.2.2.2.2.1), (hb1.cell (p := ⟨n0, 6, none⟩) hz_wd).trans (s_wd.2.2.2.2.2.2.1), (hb1.cell (p := ⟨n0, 7, none⟩) hz_wd).trans (s_wd.2.2.2.2.2.2.2.1), (hb1.cell (p := ⟨n0, 8, none⟩) hz_wd).trans (s_wd.2.2.2.2.2.2.2.2.1), (hb1.cell (p := ⟨n0, 9, none⟩) hz_wd).trans (s_wd.2.2.2.2.2.2.2.2.2.1), (hb1.cell (p := ⟨pb, po + p, none⟩) hq_wd).trans (s_wd.2.2.2.2.2.2.2.2.2.2)⟩; have HB_w1 : Hid (Below W0.heap.size W0 w1) := HB_wd.out.trans (hb1.mono HB_wd.out.size); clear hb1 ho1))
  obtain ⟨y0, y1, y2, y3, y4, y5, y6, y7, y8, y9, y10⟩ := s_w1
  clear s_wd
  cases ov with
  | false =>
    go_wp2_with fail
    go_ret
    exact ⟨ret_bool (by rw [HRLE.out, HOVR.out]; simp), HBW.out.trans (HB_w1.out.mono HBW.out.size)⟩
  | true =>
    by_cases h12 : rl ≤ 12
    · have h12I : (rl : Int) ≤ 12 := by omega
      go_wp2_with fail
      go_ret
      exact ⟨ret_bool (by rw [HRLE.out, HOVR.out, decide_eq_true h12]; rfl), HBW.out.trans (HB_w1.out.mono HBW.out.size)⟩
    · have h12I : ¬ (rl : Int) ≤ 12 := by omega
      go_wp2_with fail
      go_ret
      exact ⟨ret_bool (by rw [HRLE.out, HOVR.out, decide_eq_false (by omega)]; rfl), HBW.out.trans (HB_w1.out.mono HBW.out.size)⟩


end Go.Proofs.YtagkgejdammflaaGreat
