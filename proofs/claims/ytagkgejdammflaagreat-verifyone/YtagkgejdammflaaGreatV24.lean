/- Of the document: rule 12, at a node at which one end is. -/
import Derived.Test.YtagkgejdammflaaGreatV20
namespace Go.Proofs.YtagkgejdammflaaGreat
open Go.RowKit Fl
set_option maxRecDepth 100000

theorem least_of {p : Nat → Prop} (j : Nat) (hj : p j) : ∃ i, p i ∧ ∀ k, k < i → ¬ p k := by
  induction j using Nat.strongRecOn with
  | _ j ih =>
    by_cases h : ∃ k, k < j ∧ p k
    · obtain ⟨k, hk, hpk⟩ := h; exact ih k hk hpk
    · exact ⟨j, hj, fun k hk hpk => h ⟨k, hk, hpk⟩⟩

theorem pt_some {ps : List (Int × Int × Int × Int)} {n : Int} {j : Nat} (hj : j < ps.length) (he : ps[j].1 = n) : 0 ≤ pointL ps n := by
  obtain ⟨i, hi, hb⟩ := least_of (p := fun i => ∃ h : i < ps.length, ps[i].1 = n) j ⟨hj, he⟩
  obtain ⟨hi, hie⟩ := hi
  rw [pointL_at hi hie (fun k hk hlt hke => hb k hlt ⟨hk, hke⟩)]
  omega

theorem pt_three {L : Lay} {n : Int} (h : itsPointB L n = true) (h3 : (endsL L.secs n).length = 3) : 0 ≤ pointL L.points n := by
  unfold itsPointB at h
  rw [if_pos h3] at h
  have h1 := of_decide_eq_true h
  apply Decidable.byContradiction
  intro hneg
  have hz : ptsAt L.points n L.points.length = 0 := by
    unfold ptsAt
    rw [List.take_length, List.count_eq_zero]
    intro hm
    obtain ⟨q, hq, he⟩ := List.mem_map.1 hm
    obtain ⟨j, hj, rfl⟩ := List.getElem_of_mem hq
    exact hneg (pt_some hj he)
  omega

theorem pt_not {L : Lay} {n : Int} (h : itsPointB L n = true) (h3 : ¬ (endsL L.secs n).length = 3) : ¬ 0 ≤ pointL L.points n := by
  unfold itsPointB at h
  rw [if_neg h3] at h
  have h1 := of_decide_eq_true h
  have hn : pointL L.points n = -1 := pointL_none (fun j hj he => by
    unfold ptsAt at h1
    rw [List.take_length, List.count_eq_zero] at h1
    exact h1 (List.mem_map.2 ⟨L.points[j], List.getElem_mem _, he⟩))
  omega

theorem secsAt_len (L : Lay) (n : Int) : (secsAt L n).length = (endsL L.secs n).length := by unfold secsAt; simp
theorem secsAt_get (L : Lay) (n : Int) (j : Nat) (h : j < (endsL L.secs n).length) : (secsAt L n).getD j 0 = (endsL L.secs n)[j].1 := by
  unfold secsAt; simp [h]

set_option maxHeartbeats 8000000 in
theorem holds12c (w : World) (v : Value) (L : Lay) (p : Nat) (h : LayV w w.heap.size v L) (hL : Fits L) (hI : itsPointB L p = true) (h1 : (endsL L.secs p).length = 1) : Calls Tryz.prog 26 #[v, .int .i64 12, .int .i64 (p : Nat)] w (RetL (goesB L p) w) := by
  have HV0 := Lib.hid h
  obtain ⟨vN, vS, vP, vQ, vR, ps, rfl, hd⟩ := h
  obtain ⟨⟨A0, c0, rfl⟩, ⟨A1, c1, rfl⟩, ⟨A2, c2, rfl⟩, ⟨A3, c3, rfl⟩, ⟨A4, c4, rfl⟩⟩ := hd.slices
  have hbn := (Below.refl w.heap.size w).alloc (Nat.le_refl _) (.cells #[.slice A0 L.nodes.length c0, .slice A1 L.secs.length c1, .slice A2 L.parts.length c2, .slice A3 L.points.length c3, .slice A4 L.routes.length c4, .int .i64 L.speed, .int .i64 L.mute, .int .i64 L.wait, .int .i64 L.cancel, .int .i64 L.stay] 33)
  have HBA := Lib.hid hbn
  have HRA := Lib.hid (Row.new w 33 #[.slice A0 L.nodes.length c0, .slice A1 L.secs.length c1, .slice A2 L.parts.length c2, .slice A3 L.points.length c3, .slice A4 L.routes.length c4, .int .i64 L.speed, .int .i64 L.mute, .int .i64 L.wait, .int .i64 L.cancel, .int .i64 L.stay])
  have HVA := Lib.hid (HV0.out.up hbn)
  have HDA := Lib.hid (hd.mono hbn.size (fun _ hp => hbn.cell hp))
  clear hbn hd HV0
  have HL := Lib.hid hL
  have hel := endsL_le L hL (p : Int)
  clear HDA
  have HG : Hid (goesB L p = true) := goes_none (pt_not hI (by omega)) (by rw [secsAt_len]; omega)
  rw [HG.out]
  have h33 : (((endsL L.secs p).length : Int) == 3) = false := by simp; omega
  have h12 : (((endsL L.secs p).length : Int) < 2) := by omega
  clear hL hI HG h1
  go_enter Tryz.func26, Tryz.ntmps26
  go_upto_region 1 with (fail)
  obtain ⟨n0, hn0⟩ : ∃ n, n = w.heap.size := ⟨_, rfl⟩
  rw [← hn0] at HRA ⊢
  clear hn0
  generalize w.alloc (.cells #[.slice A0 L.nodes.length c0, .slice A1 L.secs.length c1, .slice A2 L.parts.length c2, .slice A3 L.points.length c3, .slice A4 L.routes.length c4, .int .i64 L.speed, .int .i64 L.mute, .int .i64 L.wait, .int .i64 L.cancel, .int .i64 L.stay] 33) = W0 at *
  have l0 : W0.cell? ⟨n0, 0, none⟩ = some (.slice A0 L.nodes.length c0) := by have h := HRA.out.cell 0; simpa using h
  have l1 : W0.cell? ⟨n0, 1, none⟩ = some (.slice A1 L.secs.length c1) := by have h := HRA.out.cell 1; simpa using h
  have l2 : W0.cell? ⟨n0, 2, none⟩ = some (.slice A2 L.parts.length c2) := by have h := HRA.out.cell 2; simpa using h
  have l3 : W0.cell? ⟨n0, 3, none⟩ = some (.slice A3 L.points.length c3) := by have h := HRA.out.cell 3; simpa using h
  have l4 : W0.cell? ⟨n0, 4, none⟩ = some (.slice A4 L.routes.length c4) := by have h := HRA.out.cell 4; simpa using h
  have l5 : W0.cell? ⟨n0, 5, none⟩ = some (.int .i64 L.speed) := by have h := HRA.out.cell 5; simpa using h
  have l6 : W0.cell? ⟨n0, 6, none⟩ = some (.int .i64 L.mute) := by have h := HRA.out.cell 6; simpa using h
  have l7 : W0.cell? ⟨n0, 7, none⟩ = some (.int .i64 L.wait) := by have h := HRA.out.cell 7; simpa using h
  have l8 : W0.cell? ⟨n0, 8, none⟩ = some (.int .i64 L.cancel) := by have h := HRA.out.cell 8; simpa using h
  have l9 : W0.cell? ⟨n0, 9, none⟩ = some (.int .i64 L.stay) := by have h := HRA.out.cell 9; simpa using h

  go_wp2_with fail
  refine (refEnds_any W0 W0.heap.size _ L (p : Int) HVA.out (Nat.le_refl _) HL.out).mono ?_; rintro e w1 ⟨v1, rfl, ho, hb⟩
  have HB1 := Lib.hid (HBA.out.trans (hb.mono HBA.out.size))
  have HRB := Lib.hid (Below.row hb HRA.out HRA.out.lt)
  have HVB := Lib.hid (HVA.out.up hb)
  have HPR := Lib.hid (Prs.of_own ho)
  obtain ⟨Ae, ce, hve⟩ := own_slice ho
  subst hve
  clear ho hb l0 l1 l2 l3 l4 l5 l6 l7 l8 l9 HRA HVA HBA
  go_upto_region 52 with (fail)
  clear HRB HVB HPR
  refine AnyBut.region (fun _ => True) 16 (by kernel_rfl) ?_
  change AnyBut _ _ _ _ _ _ _ _ _ w1.drew
  have HBD : Hid (Below w.heap.size w w1.drew) := below_drewN HB1.out 1
  generalize w1.drew = WD at *
  refine anybut_take 0 340 rfl rfl (by kernel_rfl) (by kernel_rfl) (by kernel_rfl) (by kernel_rfl) (by decide) (fun _ _ _ h => h) (yields_of (by rfl) (fun w9 hS => (by go_simp; try rfl))) True.intro ?_
  simp only [Act.put, List.setIfInBounds_toArray, List.set_cons_zero, List.set_cons_succ]
  refine anybut_take 1 341 rfl rfl (by kernel_rfl) (by kernel_rfl) (by kernel_rfl) (by kernel_rfl) (by decide) (fun _ _ _ h => h) (yields_of (by rfl) (fun w9 hS => (by go_simp; try rfl))) True.intro ?_
  simp only [Act.put, List.setIfInBounds_toArray, List.set_cons_zero, List.set_cons_succ]
  refine anybut_take 2 342 rfl rfl (by kernel_rfl) (by kernel_rfl) (by kernel_rfl) (by kernel_rfl) (by decide) (fun _ _ _ h => h) (yields_of (by rfl) (fun w9 hS => (by go_simp; try rfl))) True.intro ?_
  simp only [Act.put, List.setIfInBounds_toArray, List.set_cons_zero, List.set_cons_succ]
  refine anybut_take 3 343 rfl rfl (by kernel_rfl) (by kernel_rfl) (by kernel_rfl) (by kernel_rfl) (by decide) (fun _ _ _ h => h) (yields_of (by rfl) (fun w9 hS => (by go_simp; try rfl))) True.intro ?_
  simp only [Act.put, List.setIfInBounds_toArray, List.set_cons_zero, List.set_cons_succ]
  refine anybut_take 4 344 rfl rfl (by kernel_rfl) (by kernel_rfl) (by kernel_rfl) (by kernel_rfl) (by decide) (fun _ _ _ h => h) (Or.inr ⟨by rfl, rfl⟩) True.intro ?_
  simp only [Act.put, List.setIfInBounds_toArray, List.set_cons_zero, List.set_cons_succ]
  refine anybut_take 5 345 rfl rfl (by kernel_rfl) (by kernel_rfl) (by kernel_rfl) (by kernel_rfl) (by decide) (fun _ _ _ h => h) (Or.inr ⟨by rfl, rfl⟩) True.intro ?_
  simp only [Act.put, List.setIfInBounds_toArray, List.set_cons_zero, List.set_cons_succ]
  refine anybut_take 6 346 rfl rfl (by kernel_rfl) (by kernel_rfl) (by kernel_rfl) (by kernel_rfl) (by decide) (fun _ _ _ h => h) (Or.inr ⟨by rfl, rfl⟩) True.intro ?_
  simp only [Act.put, List.setIfInBounds_toArray, List.set_cons_zero, List.set_cons_succ]
  refine anybut_take 7 347 rfl rfl (by kernel_rfl) (by kernel_rfl) (by kernel_rfl) (by kernel_rfl) (by decide) (fun _ _ _ h => h) (Or.inr ⟨by rfl, rfl⟩) True.intro ?_
  simp only [Act.put, List.setIfInBounds_toArray, List.set_cons_zero, List.set_cons_succ]
  refine anybut_take 8 348 rfl rfl (by kernel_rfl) (by kernel_rfl) (by kernel_rfl) (by kernel_rfl) (by decide) (fun _ _ _ h => h) (Or.inr ⟨by rfl, rfl⟩) True.intro ?_
  simp only [Act.put, List.setIfInBounds_toArray, List.set_cons_zero, List.set_cons_succ]
  refine anybut_take 9 349 rfl rfl (by kernel_rfl) (by kernel_rfl) (by kernel_rfl) (by kernel_rfl) (by decide) (fun _ _ _ h => h) (Or.inr ⟨by rfl, rfl⟩) True.intro ?_
  simp only [Act.put, List.setIfInBounds_toArray, List.set_cons_zero, List.set_cons_succ]
  refine anybut_take 10 350 rfl rfl (by kernel_rfl) (by kernel_rfl) (by kernel_rfl) (by kernel_rfl) (by decide) (fun _ _ _ h => h) (Or.inr ⟨by rfl, rfl⟩) True.intro ?_
  simp only [Act.put, List.setIfInBounds_toArray, List.set_cons_zero, List.set_cons_succ]
  refine anybut_take 11 351 rfl rfl (by kernel_rfl) (by kernel_rfl) (by kernel_rfl) (by kernel_rfl) (by decide) (fun _ _ _ h => h) (Or.inr ⟨by rfl, rfl⟩) True.intro ?_
  simp only [Act.put, List.setIfInBounds_toArray, List.set_cons_zero, List.set_cons_succ]
  refine anybut_take 12 352 rfl rfl (by kernel_rfl) (by kernel_rfl) (by kernel_rfl) (by kernel_rfl) (by decide) (fun _ _ _ h => h) (Or.inr ⟨by rfl, rfl⟩) True.intro ?_
  simp only [Act.put, List.setIfInBounds_toArray, List.set_cons_zero, List.set_cons_succ]
  refine anybut_take 13 353 rfl rfl (by kernel_rfl) (by kernel_rfl) (by kernel_rfl) (by kernel_rfl) (by decide) (fun _ _ _ h => h) (Or.inr ⟨by rfl, rfl⟩) True.intro ?_
  simp only [Act.put, List.setIfInBounds_toArray, List.set_cons_zero, List.set_cons_succ]
  refine anybut_skip 14 354 rfl rfl (by kernel_rfl) (by rfl) True.intro ?_
  simp only [Act.put, List.setIfInBounds_toArray, List.set_cons_zero, List.set_cons_succ]
  refine anybut_take 15 355 rfl rfl (by kernel_rfl) (by kernel_rfl) (by kernel_rfl) (by kernel_rfl) (by decide) (fun _ _ _ h => h) (yields_of (by rfl) (fun w9 hS => (by go_simp; try rfl))) True.intro ?_
  simp only [Act.put, List.setIfInBounds_toArray, List.set_cons_zero, List.set_cons_succ]
  refine AnyBut.one 16 rfl (by kernel_rfl) (by rfl) ?_
  go_simp
  refine AnyBut.done (by kernel_rfl) ?_
  go_wp2_with fail
  go_ret
  exact ⟨rfl, HBD.out⟩


end Go.Proofs.YtagkgejdammflaaGreat
