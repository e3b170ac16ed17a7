/- Of the document: rule 4, where a node isn't there. -/
import Derived.Test.YtagkgejdammflaaGreatV18
namespace Go.Proofs.YtagkgejdammflaaGreat
open Go.RowKit Fl
set_option maxRecDepth 100000

/-- Number i alone may come up, and is not wanted. -/
theorem anybut_skip {P : Program} {md : Region.Mode} {ops : Array Oper} {Q : Exit → Act → World → Prop} {S : World → Prop} {t n : Nat} {L : Array Bool} {a : Act} {w : World} (i k : Nat) {oi : Oper} (hi : ops[i]? = some oi) (hd : oi.dst = some k) (hr : Region.ready md ops L = [i]) (hw : Region.wanted oi (yielded ops a.tmps) = false)
    (hS : S w) (h : AnyBut P md ops Q S t n (L.setIfInBounds i true) (a.put (some k) undef) w) : AnyBut P md ops Q S t (n + 1) L a w :=
  ⟨fun h0 => absurd (hr.symm.trans h0) (by simp), fun j hj => (by
    rw [hr] at hj
    have e : j = i := by simpa using hj
    rw [e]
    unfold wpOp
    simp only [hi, hw, Bool.false_eq_true, if_false, hd]
    exact ⟨fun _ => hS, h⟩)⟩

/-- Number i is taken first; its slot. -/
theorem anybut_take {P : Program} {md : Region.Mode} {ops : Array Oper} {Q : Exit → Act → World → Prop} {S : World → Prop} {t : Nat} (i k : Nat) {oi : Oper} {v : Value} {n : Nat} {L : Array Bool} {a : Act} {w : World} (hi : ops[i]? = some oi) (hd : oi.dst = some k) (hs : Region.noSelect ops = true)
    (hf : Region.free md ops L i = true) (hr : (Region.ready md ops L).contains i = true)
    (ht : ((ops[t]?).all fun o => o.after.any fun e => Region.binds md e && e.on == i) = true) (hit : i ≠ t)
    (hQ : ∀ c a w, Q (.panic c) (a.put oi.dst v) w → Q (.panic c) a w) (hy : YieldsIf P ops S oi v a) (hS : S w)
    (h : AnyBut P md ops Q S t n (L.setIfInBounds i true) (a.put (some k) v) w) : AnyBut P md ops Q S t (n + 1) L a w :=
  AnyBut.take i hi hs hf hr ht hit hQ hy hS (by rw [hd]; exact h)

set_option maxHeartbeats 8000000 in
theorem holds4a (w : World) (v : Value) (L : Lay) (p : Nat) (h : LayV w w.heap.size v L) (hp : p < L.secs.length) (hbA : inB L.secs[p].2.1 0 ((L.nodes.length : Int) - 1) = false) : Calls Tryz.prog 26 #[v, .int .i64 4, .int .i64 p] w (RetL (false) w) := by
  have HV0 := Lib.hid h
  obtain ⟨vN, vS, vP, vQ, vR, ps, rfl, hd⟩ := h
  obtain ⟨⟨A0, c0, rfl⟩, ⟨A1, c1, rfl⟩, ⟨A2, c2, rfl⟩, ⟨A3, c3, rfl⟩, ⟨A4, c4, rfl⟩⟩ := hd.slices
  have hbn := (Below.refl w.heap.size w).alloc (Nat.le_refl _) (.cells #[.slice A0 L.nodes.length c0, .slice A1 L.secs.length c1, .slice A2 L.parts.length c2, .slice A3 L.points.length c3, .slice A4 L.routes.length c4, .int .i64 L.speed, .int .i64 L.mute, .int .i64 L.wait, .int .i64 L.cancel, .int .i64 L.stay] 33)
  have HBA := Lib.hid hbn
  have HRA := Lib.hid (Row.new w 33 #[.slice A0 L.nodes.length c0, .slice A1 L.secs.length c1, .slice A2 L.parts.length c2, .slice A3 L.points.length c3, .slice A4 L.routes.length c4, .int .i64 L.speed, .int .i64 L.mute, .int .i64 L.wait, .int .i64 L.cancel, .int .i64 L.stay])
  have HVA := Lib.hid (HV0.out.up hbn)
  have HDA := Lib.hid (hd.mono hbn.size (fun _ hp => hbn.cell hp))
  clear hbn hd HV0
  obtain ⟨A', c', hv, hx⟩ := HDA.out.s
  obtain ⟨sb, so, hA, hsb, hc⟩ := hx (by omega)
  injection hv with e1 _ e3
  subst e1 e3
  subst hA
  obtain ⟨q0, q1, q2⟩ := hc p hp
  have hi2 : (p : Int) < (L.secs.length : Int) := by omega
  have hi3 : (0 : Int) ≤ (p : Int) := by omega
  generalize L.secs[p] = z at *
  obtain ⟨ln, a, b⟩ := z
  simp only at q0 q1 q2 hbA
  have HBA2 := Lib.hid hbA
  clear hx hc hsb hbA HDA
  go_enter Tryz.func26, Tryz.ntmps26
  go_upto_region 1 with (fail)
  obtain ⟨n0, hn0⟩ : ∃ n, n = w.heap.size := ⟨_, rfl⟩
  rw [← hn0] at HRA ⊢
  clear hn0
  generalize w.alloc (.cells #[.slice A0 L.nodes.length c0, .slice (some ⟨sb, so, none⟩) L.secs.length c1, .slice A2 L.parts.length c2, .slice A3 L.points.length c3, .slice A4 L.routes.length c4, .int .i64 L.speed, .int .i64 L.mute, .int .i64 L.wait, .int .i64 L.cancel, .int .i64 L.stay] 33) = W0 at *
  have l1 : W0.cell? ⟨n0, 1, none⟩ = some (.slice (some ⟨sb, so, none⟩) L.secs.length c1) := by have h := HRA.out.cell 1; simpa using h

  have HB1 : Hid (Below W0.heap.size W0 (W0.alloc (.cells #[.int .i64 ln, .int .i64 a, .int .i64 b] 39))) := (Below.refl _ _).alloc (Nat.le_refl _) _
  have HR1 := Lib.hid (Row.new W0 39 #[.int .i64 ln, .int .i64 a, .int .i64 b])
  have HRW := Lib.hid (Below.row HB1.out HRA.out HRA.out.lt)
  have HVW := Lib.hid (HVA.out.up HB1.out)
  have HBW : Hid (Below w.heap.size w (W0.alloc (.cells #[.int .i64 ln, .int .i64 a, .int .i64 b] 39))) := HBA.out.trans (HB1.out.mono HBA.out.size)
  clear HRA HVA HBA
  go_upto_region 15 with (fail)
  obtain ⟨nb, hnb⟩ : ∃ n, n = W0.heap.size := ⟨_, rfl⟩
  rw [← hnb] at HR1 ⊢
  clear hnb HB1 l1 q0 q1 q2
  generalize W0.alloc (.cells #[.int .i64 ln, .int .i64 a, .int .i64 b] 39) = W1 at *
  have s_wd : W1.drew.cell? ⟨n0, 0, none⟩ = some (.slice A0 L.nodes.length c0) ∧ W1.drew.cell? ⟨n0, 1, none⟩ = some (.slice (some ⟨sb, so, none⟩) L.secs.length c1) ∧ W1.drew.cell? ⟨n0, 2, none⟩ = some (.slice A2 L.parts.length c2) ∧ W1.drew.cell? ⟨n0, 3, none⟩ = some (.slice A3 L.points.length c3) ∧ W1.drew.cell? ⟨n0, 4, none⟩ = some (.slice A4 L.routes.length c4) ∧ W1.drew.cell? ⟨n0, 5, none⟩ = some (.int .i64 L.speed) ∧ W1.drew.cell? ⟨n0, 6, none⟩ = some (.int .i64 L.mute) ∧ W1.drew.cell? ⟨n0, 7, none⟩ = some (.int .i64 L.wait) ∧ W1.drew.cell? ⟨n0, 8, none⟩ = some (.int .i64 L.cancel) ∧ W1.drew.cell? ⟨n0, 9, none⟩ = some (.int .i64 L.stay) ∧ W1.drew.cell? ⟨nb, 0, none⟩ = some (.int .i64 ln) ∧ W1.drew.cell? ⟨nb, 1, none⟩ = some (.int .i64 a) ∧ W1.drew.cell? ⟨nb, 2, none⟩ = some (.int .i64 b) := ⟨(by have h := HRW.out.cell 0; simpa using h), (by have h := HRW.out.cell 1; simpa using h), (by have h := HRW.out.cell 2; simpa using h), (by have h := HRW.out.cell 3; simpa using h), (by have h := HRW.out.cell 4; simpa using h), (by have h := HRW.out.cell 5; simpa using h), (by have h := HRW.out.cell 6; simpa using h), (by have h := HRW.out.cell 7; simpa using h), (by have h := HRW.out.cell 8; simpa using h), (by have h := HRW.out.cell 9; simpa using h), (by have h := HR1.out.cell 0; simpa using h), (by have h := HR1.out.cell 1; simpa using h), (by have h := HR1.out.cell 2; simpa using h)⟩
  have hz_wd : n0 < W1.drew.heap.size := HRW.out.lt
  have hb_wd : nb < W1.drew.heap.size := HR1.out.lt
  have HB_wd : Hid (Below W1.heap.size W1 W1.drew) := below_drewN (Below.refl _ _) 1
  have HWA : Hid (∀ W, Below W1.heap.size W1 W → Calls Tryz.prog 52 #[.agg #[.slice A0 L.nodes.length c0, .slice (some ⟨sb, so, none⟩) L.secs.length c1, .slice A2 L.parts.length c2, .slice A3 L.points.length c3, .slice A4 L.routes.length c4, .int .i64 L.speed, .int .i64 L.mute, .int .i64 L.wait, .int .i64 L.cancel, .int .i64 L.stay], .int .i64 a] W (RetL false W)) := fun W hW => by
    have h := refNode52_any W _ L a (HVW.out.up hW)
    rw [HBA2.out] at h
    exact h
  clear HRW HR1
  refine AnyBut.region (fun w' => w'.cell? ⟨n0, 0, none⟩ = some (.slice A0 L.nodes.length c0) ∧ w'.cell? ⟨n0, 1, none⟩ = some (.slice (some ⟨sb, so, none⟩) L.secs.length c1) ∧ w'.cell? ⟨n0, 2, none⟩ = some (.slice A2 L.parts.length c2) ∧ w'.cell? ⟨n0, 3, none⟩ = some (.slice A3 L.points.length c3) ∧ w'.cell? ⟨n0, 4, none⟩ = some (.slice A4 L.routes.length c4) ∧ w'.cell? ⟨n0, 5, none⟩ = some (.int .i64 L.speed) ∧ w'.cell? ⟨n0, 6, none⟩ = some (.int .i64 L.mute) ∧ w'.cell? ⟨n0, 7, none⟩ = some (.int .i64 L.wait) ∧ w'.cell? ⟨n0, 8, none⟩ = some (.int .i64 L.cancel) ∧ w'.cell? ⟨n0, 9, none⟩ = some (.int .i64 L.stay) ∧ w'.cell? ⟨nb, 0, none⟩ = some (.int .i64 ln) ∧ w'.cell? ⟨nb, 1, none⟩ = some (.int .i64 a) ∧ w'.cell? ⟨nb, 2, none⟩ = some (.int .i64 b)) 27 (by kernel_rfl) ?_
  change AnyBut _ _ _ _ _ _ _ _ _ W1.drew
  generalize hWD : W1.drew = WD at *
  clear hWD
  refine anybut_take 0 77 rfl rfl (by kernel_rfl) (by kernel_rfl) (by kernel_rfl) (by kernel_rfl) (by decide) (fun _ _ _ h => h) (yields_of (by rfl) (fun w9 hS => (by obtain ⟨z0, z1, z2, z3, z4, z5, z6, z7, z8, z9, z10, z11, z12⟩ := hS; go_simp; try rfl))) s_wd ?_
  simp only [Act.put, List.setIfInBounds_toArray, List.set_cons_zero, List.set_cons_succ]
  refine anybut_take 1 78 rfl rfl (by kernel_rfl) (by kernel_rfl) (by kernel_rfl) (by kernel_rfl) (by decide) (fun _ _ _ h => h) (yields_of (by rfl) (fun w9 hS => (by obtain ⟨z0, z1, z2, z3, z4, z5, z6, z7, z8, z9, z10, z11, z12⟩ := hS; go_simp; try rfl))) s_wd ?_
  simp only [Act.put, List.setIfInBounds_toArray, List.set_cons_zero, List.set_cons_succ]
  refine anybut_take 2 79 rfl rfl (by kernel_rfl) (by kernel_rfl) (by kernel_rfl) (by kernel_rfl) (by decide) (fun _ _ _ h => h) (yields_of (by rfl) (fun w9 hS => (by obtain ⟨z0, z1, z2, z3, z4, z5, z6, z7, z8, z9, z10, z11, z12⟩ := hS; go_simp; try rfl))) s_wd ?_
  simp only [Act.put, List.setIfInBounds_toArray, List.set_cons_zero, List.set_cons_succ]
  refine AnyBut.one 3 rfl (by kernel_rfl) (by rfl) ?_
  go_simp
  refine (HWA.out WD HB_wd.out).mono ?_; rintro e w2 ⟨rfl, hb2⟩
  have s_w2 : w2.cell? ⟨n0, 0, none⟩ = some (.slice A0 L.nodes.length c0) ∧ w2.cell? ⟨n0, 1, none⟩ = some (.slice (some ⟨sb, so, none⟩) L.secs.length c1) ∧ w2.cell? ⟨n0, 2, none⟩ = some (.slice A2 L.parts.length c2) ∧ w2.cell? ⟨n0, 3, none⟩ = some (.slice A3 L.points.length c3) ∧ w2.cell? ⟨n0, 4, none⟩ = some (.slice A4 L.routes.length c4) ∧ w2.cell? ⟨n0, 5, none⟩ = some (.int .i64 L.speed) ∧ w2.cell? ⟨n0, 6, none⟩ = some (.int .i64 L.mute) ∧ w2.cell? ⟨n0, 7, none⟩ = some (.int .i64 L.wait) ∧ w2.cell? ⟨n0, 8, none⟩ = some (.int .i64 L.cancel) ∧ w2.cell? ⟨n0, 9, none⟩ = some (.int .i64 L.stay) ∧ w2.cell? ⟨nb, 0, none⟩ = some (.int .i64 ln) ∧ w2.cell? ⟨nb, 1, none⟩ = some (.int .i64 a) ∧ w2.cell? ⟨nb, 2, none⟩ = some (.int .i64 b) := ⟨(hb2.cell (p := ⟨n0, 0, none⟩) hz_wd).trans (s_wd.1), (hb2.cell (p := ⟨n0, 1, none⟩) hz_wd).trans (s_wd.2.1), (hb2.cell (p := ⟨n0, 2, none⟩) hz_wd).trans (s_wd.2.2.1), (hb2.cell (p := ⟨n0, 3, none⟩) hz_wd).trans (s_wd.2.2.2.1), (hb2.cell (p := ⟨n0, 4, none⟩) hz_wd).trans (s_wd.2.2.2.2.1), (hb2.cell (p := ⟨n0, 5, none⟩) hz_wd).trans (s_wd.2.2.2.2.2.1), (hb2.cell (p := ⟨n0, 6, none⟩) hz_wd).trans (s_wd.2.2.2.2.2.2.1), (hb2.cell (p := ⟨n0, 7, none⟩) hz_wd).trans (s_wd.2.2.2.2.2.2.2.1), (hb2.cell (p := ⟨n0, 8, none⟩) hz_wd).trans (s_wd.2.2.2.2.2.2.2.2.1), (hb2.cell (p := ⟨n0, 9, none⟩) hz_wd).trans (s_wd.2.2.2.2.2.2.2.2.2.1), (hb2.cell (p := ⟨nb, 0, none⟩) hb_wd).trans (s_wd.2.2.2.2.2.2.2.2.2.2.1), (hb2.cell (p := ⟨nb, 1, none⟩) hb_wd).trans (s_wd.2.2.2.2.2.2.2.2.2.2.2.1), (hb2.cell (p := ⟨nb, 2, none⟩) hb_wd).trans (s_wd.2.2.2.2.2.2.2.2.2.2.2.2)⟩
  have hz_w2 := Nat.lt_of_lt_of_le hz_wd hb2.size
  have hb_w2 := Nat.lt_of_lt_of_le hb_wd hb2.size
  have HB_w2 : Hid (Below W1.heap.size W1 w2) := HB_wd.out.trans (hb2.mono HB_wd.out.size)
  clear hb2 s_wd hz_wd hb_wd
  refine ⟨s_w2, ?_⟩
  refine anybut_take 4 81 rfl rfl (by kernel_rfl) (by kernel_rfl) (by kernel_rfl) (by kernel_rfl) (by decide) (fun _ _ _ h => h) (yields_of (by rfl) (fun w9 hS => (by obtain ⟨z0, z1, z2, z3, z4, z5, z6, z7, z8, z9, z10, z11, z12⟩ := hS; go_simp; try rfl))) s_w2 ?_
  simp only [Act.put, List.setIfInBounds_toArray, List.set_cons_zero, List.set_cons_succ]
  refine anybut_take 5 82 rfl rfl (by kernel_rfl) (by kernel_rfl) (by kernel_rfl) (by kernel_rfl) (by decide) (fun _ _ _ h => h) (Or.inr ⟨by rfl, rfl⟩) s_w2 ?_
  simp only [Act.put, List.setIfInBounds_toArray, List.set_cons_zero, List.set_cons_succ]
  refine anybut_take 6 83 rfl rfl (by kernel_rfl) (by kernel_rfl) (by kernel_rfl) (by kernel_rfl) (by decide) (fun _ _ _ h => h) (Or.inr ⟨by rfl, rfl⟩) s_w2 ?_
  simp only [Act.put, List.setIfInBounds_toArray, List.set_cons_zero, List.set_cons_succ]
  refine anybut_take 7 84 rfl rfl (by kernel_rfl) (by kernel_rfl) (by kernel_rfl) (by kernel_rfl) (by decide) (fun _ _ _ h => h) (Or.inr ⟨by rfl, rfl⟩) s_w2 ?_
  simp only [Act.put, List.setIfInBounds_toArray, List.set_cons_zero, List.set_cons_succ]
  refine anybut_skip 8 85 rfl rfl (by kernel_rfl) (by rfl) s_w2 ?_
  simp only [Act.put, List.setIfInBounds_toArray, List.set_cons_zero, List.set_cons_succ]
  refine anybut_take 9 86 rfl rfl (by kernel_rfl) (by kernel_rfl) (by kernel_rfl) (by kernel_rfl) (by decide) (fun _ _ _ h => h) (yields_of (by rfl) (fun w9 hS => (by obtain ⟨z0, z1, z2, z3, z4, z5, z6, z7, z8, z9, z10, z11, z12⟩ := hS; go_simp; try rfl))) s_w2 ?_
  simp only [Act.put, List.setIfInBounds_toArray, List.set_cons_zero, List.set_cons_succ]
  refine anybut_take 10 87 rfl rfl (by kernel_rfl) (by kernel_rfl) (by kernel_rfl) (by kernel_rfl) (by decide) (fun _ _ _ h => h) (yields_of (by rfl) (fun w9 hS => (by obtain ⟨z0, z1, z2, z3, z4, z5, z6, z7, z8, z9, z10, z11, z12⟩ := hS; go_simp; try rfl))) s_w2 ?_
  simp only [Act.put, List.setIfInBounds_toArray, List.set_cons_zero, List.set_cons_succ]
  refine anybut_take 11 88 rfl rfl (by kernel_rfl) (by kernel_rfl) (by kernel_rfl) (by kernel_rfl) (by decide) (fun _ _ _ h => h) (Or.inr ⟨by rfl, rfl⟩) s_w2 ?_
  simp only [Act.put, List.setIfInBounds_toArray, List.set_cons_zero, List.set_cons_succ]
  refine anybut_take 12 89 rfl rfl (by kernel_rfl) (by kernel_rfl) (by kernel_rfl) (by kernel_rfl) (by decide) (fun _ _ _ h => h) (Or.inr ⟨by rfl, rfl⟩) s_w2 ?_
  simp only [Act.put, List.setIfInBounds_toArray, List.set_cons_zero, List.set_cons_succ]
  refine anybut_take 13 90 rfl rfl (by kernel_rfl) (by kernel_rfl) (by kernel_rfl) (by kernel_rfl) (by decide) (fun _ _ _ h => h) (Or.inr ⟨by rfl, rfl⟩) s_w2 ?_
  simp only [Act.put, List.setIfInBounds_toArray, List.set_cons_zero, List.set_cons_succ]
  refine anybut_take 14 91 rfl rfl (by kernel_rfl) (by kernel_rfl) (by kernel_rfl) (by kernel_rfl) (by decide) (fun _ _ _ h => h) (Or.inr ⟨by rfl, rfl⟩) s_w2 ?_
  simp only [Act.put, List.setIfInBounds_toArray, List.set_cons_zero, List.set_cons_succ]
  refine anybut_take 15 92 rfl rfl (by kernel_rfl) (by kernel_rfl) (by kernel_rfl) (by kernel_rfl) (by decide) (fun _ _ _ h => h) (Or.inr ⟨by rfl, rfl⟩) s_w2 ?_
  simp only [Act.put, List.setIfInBounds_toArray, List.set_cons_zero, List.set_cons_succ]
  refine anybut_take 16 93 rfl rfl (by kernel_rfl) (by kernel_rfl) (by kernel_rfl) (by kernel_rfl) (by decide) (fun _ _ _ h => h) (Or.inr ⟨by rfl, rfl⟩) s_w2 ?_
  simp only [Act.put, List.setIfInBounds_toArray, List.set_cons_zero, List.set_cons_succ]
  refine anybut_take 17 94 rfl rfl (by kernel_rfl) (by kernel_rfl) (by kernel_rfl) (by kernel_rfl) (by decide) (fun _ _ _ h => h) (Or.inr ⟨by rfl, rfl⟩) s_w2 ?_
  simp only [Act.put, List.setIfInBounds_toArray, List.set_cons_zero, List.set_cons_succ]
  refine anybut_take 18 95 rfl rfl (by kernel_rfl) (by kernel_rfl) (by kernel_rfl) (by kernel_rfl) (by decide) (fun _ _ _ h => h) (Or.inr ⟨by rfl, rfl⟩) s_w2 ?_
  simp only [Act.put, List.setIfInBounds_toArray, List.set_cons_zero, List.set_cons_succ]
  refine anybut_take 19 96 rfl rfl (by kernel_rfl) (by kernel_rfl) (by kernel_rfl) (by kernel_rfl) (by decide) (fun _ _ _ h => h) (Or.inr ⟨by rfl, rfl⟩) s_w2 ?_
  simp only [Act.put, List.setIfInBounds_toArray, List.set_cons_zero, List.set_cons_succ]
  refine anybut_take 20 97 rfl rfl (by kernel_rfl) (by kernel_rfl) (by kernel_rfl) (by kernel_rfl) (by decide) (fun _ _ _ h => h) (Or.inr ⟨by rfl, rfl⟩) s_w2 ?_
  simp only [Act.put, List.setIfInBounds_toArray, List.set_cons_zero, List.set_cons_succ]
  refine anybut_take 21 98 rfl rfl (by kernel_rfl) (by kernel_rfl) (by kernel_rfl) (by kernel_rfl) (by decide) (fun _ _ _ h => h) (Or.inr ⟨by rfl, rfl⟩) s_w2 ?_
  simp only [Act.put, List.setIfInBounds_toArray, List.set_cons_zero, List.set_cons_succ]
  refine anybut_take 22 99 rfl rfl (by kernel_rfl) (by kernel_rfl) (by kernel_rfl) (by kernel_rfl) (by decide) (fun _ _ _ h => h) (Or.inr ⟨by rfl, rfl⟩) s_w2 ?_
  simp only [Act.put, List.setIfInBounds_toArray, List.set_cons_zero, List.set_cons_succ]
  refine anybut_take 23 100 rfl rfl (by kernel_rfl) (by kernel_rfl) (by kernel_rfl) (by kernel_rfl) (by decide) (fun _ _ _ h => h) (Or.inr ⟨by rfl, rfl⟩) s_w2 ?_
  simp only [Act.put, List.setIfInBounds_toArray, List.set_cons_zero, List.set_cons_succ]
  refine anybut_take 24 101 rfl rfl (by kernel_rfl) (by kernel_rfl) (by kernel_rfl) (by kernel_rfl) (by decide) (fun _ _ _ h => h) (Or.inr ⟨by rfl, rfl⟩) s_w2 ?_
  simp only [Act.put, List.setIfInBounds_toArray, List.set_cons_zero, List.set_cons_succ]
  refine anybut_skip 25 102 rfl rfl (by kernel_rfl) (by rfl) s_w2 ?_
  simp only [Act.put, List.setIfInBounds_toArray, List.set_cons_zero, List.set_cons_succ]
  refine anybut_take 26 103 rfl rfl (by kernel_rfl) (by kernel_rfl) (by kernel_rfl) (by kernel_rfl) (by decide) (fun _ _ _ h => h) (yields_of (by rfl) (fun w9 hS => (by obtain ⟨z0, z1, z2, z3, z4, z5, z6, z7, z8, z9, z10, z11, z12⟩ := hS; go_simp; try rfl))) s_w2 ?_
  simp only [Act.put, List.setIfInBounds_toArray, List.set_cons_zero, List.set_cons_succ]
  refine AnyBut.one 27 rfl (by kernel_rfl) (by rfl) ?_
  go_simp
  refine AnyBut.done (by kernel_rfl) ?_
  go_wp2_with fail
  go_ret
  exact ⟨rfl, HBW.out.trans (HB_w2.out.mono HBW.out.size)⟩

set_option maxHeartbeats 8000000 in
theorem holds4b (w : World) (v : Value) (L : Lay) (p : Nat) (h : LayV w w.heap.size v L) (hp : p < L.secs.length) (hbA : inB L.secs[p].2.1 0 ((L.nodes.length : Int) - 1) = true) (hbB : inB L.secs[p].2.2 0 ((L.nodes.length : Int) - 1) = false) : Calls Tryz.prog 26 #[v, .int .i64 4, .int .i64 p] w (RetL (false) w) := by
  have HV0 := Lib.hid h
  obtain ⟨vN, vS, vP, vQ, vR, ps, rfl, hd⟩ := h
  obtain ⟨⟨A0, c0, rfl⟩, ⟨A1, c1, rfl⟩, ⟨A2, c2, rfl⟩, ⟨A3, c3, rfl⟩, ⟨A4, c4, rfl⟩⟩ := hd.slices
  have hbn := (Below.refl w.heap.size w).alloc (Nat.le_refl _) (.cells #[.slice A0 L.nodes.length c0, .slice A1 L.secs.length c1, .slice A2 L.parts.length c2, .slice A3 L.points.length c3, .slice A4 L.routes.length c4, .int .i64 L.speed, .int .i64 L.mute, .int .i64 L.wait, .int .i64 L.cancel, .int .i64 L.stay] 33)
  have HBA := Lib.hid hbn
  have HRA := Lib.hid (Row.new w 33 #[.slice A0 L.nodes.length c0, .slice A1 L.secs.length c1, .slice A2 L.parts.length c2, .slice A3 L.points.length c3, .slice A4 L.routes.length c4, .int .i64 L.speed, .int .i64 L.mute, .int .i64 L.wait, .int .i64 L.cancel, .int .i64 L.stay])
  have HVA := Lib.hid (HV0.out.up hbn)
  have HDA := Lib.hid (hd.mono hbn.size (fun _ hp => hbn.cell hp))
  clear hbn hd HV0
  obtain ⟨A', c', hv, hx⟩ := HDA.out.s
  obtain ⟨sb, so, hA, hsb, hc⟩ := hx (by omega)
  injection hv with e1 _ e3
  subst e1 e3
  subst hA
  obtain ⟨q0, q1, q2⟩ := hc p hp
  have hi2 : (p : Int) < (L.secs.length : Int) := by omega
  have hi3 : (0 : Int) ≤ (p : Int) := by omega
  generalize L.secs[p] = z at *
  obtain ⟨ln, a, b⟩ := z
  simp only at q0 q1 q2 hbA hbB
  have HBA2 := Lib.hid hbA; have HBB2 := Lib.hid hbB
  clear hx hc hsb hbA hbB HDA
  go_enter Tryz.func26, Tryz.ntmps26
  go_upto_region 1 with (fail)
  obtain ⟨n0, hn0⟩ : ∃ n, n = w.heap.size := ⟨_, rfl⟩
  rw [← hn0] at HRA ⊢
  clear hn0
  generalize w.alloc (.cells #[.slice A0 L.nodes.length c0, .slice (some ⟨sb, so, none⟩) L.secs.length c1, .slice A2 L.parts.length c2, .slice A3 L.points.length c3, .slice A4 L.routes.length c4, .int .i64 L.speed, .int .i64 L.mute, .int .i64 L.wait, .int .i64 L.cancel, .int .i64 L.stay] 33) = W0 at *
  have l1 : W0.cell? ⟨n0, 1, none⟩ = some (.slice (some ⟨sb, so, none⟩) L.secs.length c1) := by have h := HRA.out.cell 1; simpa using h

  have HB1 : Hid (Below W0.heap.size W0 (W0.alloc (.cells #[.int .i64 ln, .int .i64 a, .int .i64 b] 39))) := (Below.refl _ _).alloc (Nat.le_refl _) _
  have HR1 := Lib.hid (Row.new W0 39 #[.int .i64 ln, .int .i64 a, .int .i64 b])
  have HRW := Lib.hid (Below.row HB1.out HRA.out HRA.out.lt)
  have HVW := Lib.hid (HVA.out.up HB1.out)
  have HBW : Hid (Below w.heap.size w (W0.alloc (.cells #[.int .i64 ln, .int .i64 a, .int .i64 b] 39))) := HBA.out.trans (HB1.out.mono HBA.out.size)
  clear HRA HVA HBA
  go_upto_region 15 with (fail)
  obtain ⟨nb, hnb⟩ : ∃ n, n = W0.heap.size := ⟨_, rfl⟩
  rw [← hnb] at HR1 ⊢
  clear hnb HB1 l1 q0 q1 q2
  generalize W0.alloc (.cells #[.int .i64 ln, .int .i64 a, .int .i64 b] 39) = W1 at *
  have s_wd : W1.drew.cell? ⟨n0, 0, none⟩ = some (.slice A0 L.nodes.length c0) ∧ W1.drew.cell? ⟨n0, 1, none⟩ = some (.slice (some ⟨sb, so, none⟩) L.secs.length c1) ∧ W1.drew.cell? ⟨n0, 2, none⟩ = some (.slice A2 L.parts.length c2) ∧ W1.drew.cell? ⟨n0, 3, none⟩ = some (.slice A3 L.points.length c3) ∧ W1.drew.cell? ⟨n0, 4, none⟩ = some (.slice A4 L.routes.length c4) ∧ W1.drew.cell? ⟨n0, 5, none⟩ = some (.int .i64 L.speed) ∧ W1.drew.cell? ⟨n0, 6, none⟩ = some (.int .i64 L.mute) ∧ W1.drew.cell? ⟨n0, 7, none⟩ = some (.int .i64 L.wait) ∧ W1.drew.cell? ⟨n0, 8, none⟩ = some (.int .i64 L.cancel) ∧ W1.drew.cell? ⟨n0, 9, none⟩ = some (.int .i64 L.stay) ∧ W1.drew.cell? ⟨nb, 0, none⟩ = some (.int .i64 ln) ∧ W1.drew.cell? ⟨nb, 1, none⟩ = some (.int .i64 a) ∧ W1.drew.cell? ⟨nb, 2, none⟩ = some (.int .i64 b) := ⟨(by have h := HRW.out.cell 0; simpa using h), (by have h := HRW.out.cell 1; simpa using h), (by have h := HRW.out.cell 2; simpa using h), (by have h := HRW.out.cell 3; simpa using h), (by have h := HRW.out.cell 4; simpa using h), (by have h := HRW.out.cell 5; simpa using h), (by have h := HRW.out.cell 6; simpa using h), (by have h := HRW.out.cell 7; simpa using h), (by have h := HRW.out.cell 8; simpa using h), (by have h := HRW.out.cell 9; simpa using h), (by have h := HR1.out.cell 0; simpa using h), (by have h := HR1.out.cell 1; simpa using h), (by have h := HR1.out.cell 2; simpa using h)⟩
  have hz_wd : n0 < W1.drew.heap.size := HRW.out.lt
  have hb_wd : nb < W1.drew.heap.size := HR1.out.lt
  have HB_wd : Hid (Below W1.heap.size W1 W1.drew) := below_drewN (Below.refl _ _) 1
  have HWA : Hid (∀ W, Below W1.heap.size W1 W → Calls Tryz.prog 52 #[.agg #[.slice A0 L.nodes.length c0, .slice (some ⟨sb, so, none⟩) L.secs.length c1, .slice A2 L.parts.length c2, .slice A3 L.points.length c3, .slice A4 L.routes.length c4, .int .i64 L.speed, .int .i64 L.mute, .int .i64 L.wait, .int .i64 L.cancel, .int .i64 L.stay], .int .i64 a] W (RetL true W)) := fun W hW => by
    have h := refNode52_any W _ L a (HVW.out.up hW)
    rw [HBA2.out] at h
    exact h
  have HWB : Hid (∀ W, Below W1.heap.size W1 W → Calls Tryz.prog 52 #[.agg #[.slice A0 L.nodes.length c0, .slice (some ⟨sb, so, none⟩) L.secs.length c1, .slice A2 L.parts.length c2, .slice A3 L.points.length c3, .slice A4 L.routes.length c4, .int .i64 L.speed, .int .i64 L.mute, .int .i64 L.wait, .int .i64 L.cancel, .int .i64 L.stay], .int .i64 b] W (RetL false W)) := fun W hW => by
    have h := refNode52_any W _ L b (HVW.out.up hW)
    rw [HBB2.out] at h
    exact h
  clear HRW HR1
  refine AnyBut.region (fun w' => w'.cell? ⟨n0, 0, none⟩ = some (.slice A0 L.nodes.length c0) ∧ w'.cell? ⟨n0, 1, none⟩ = some (.slice (some ⟨sb, so, none⟩) L.secs.length c1) ∧ w'.cell? ⟨n0, 2, none⟩ = some (.slice A2 L.parts.length c2) ∧ w'.cell? ⟨n0, 3, none⟩ = some (.slice A3 L.points.length c3) ∧ w'.cell? ⟨n0, 4, none⟩ = some (.slice A4 L.routes.length c4) ∧ w'.cell? ⟨n0, 5, none⟩ = some (.int .i64 L.speed) ∧ w'.cell? ⟨n0, 6, none⟩ = some (.int .i64 L.mute) ∧ w'.cell? ⟨n0, 7, none⟩ = some (.int .i64 L.wait) ∧ w'.cell? ⟨n0, 8, none⟩ = some (.int .i64 L.cancel) ∧ w'.cell? ⟨n0, 9, none⟩ = some (.int .i64 L.stay) ∧ w'.cell? ⟨nb, 0, none⟩ = some (.int .i64 ln) ∧ w'.cell? ⟨nb, 1, none⟩ = some (.int .i64 a) ∧ w'.cell? ⟨nb, 2, none⟩ = some (.int .i64 b)) 27 (by kernel_rfl) ?_
  change AnyBut _ _ _ _ _ _ _ _ _ W1.drew
  generalize hWD : W1.drew = WD at *
  clear hWD
  refine anybut_take 0 77 rfl rfl (by kernel_rfl) (by kernel_rfl) (by kernel_rfl) (by kernel_rfl) (by decide) (fun _ _ _ h => h) (yields_of (by rfl) (fun w9 hS => (by obtain ⟨z0, z1, z2, z3, z4, z5, z6, z7, z8, z9, z10, z11, z12⟩ := hS; go_simp; try rfl))) s_wd ?_
  simp only [Act.put, List.setIfInBounds_toArray, List.set_cons_zero, List.set_cons_succ]
  refine anybut_take 1 78 rfl rfl (by kernel_rfl) (by kernel_rfl) (by kernel_rfl) (by kernel_rfl) (by decide) (fun _ _ _ h => h) (yields_of (by rfl) (fun w9 hS => (by obtain ⟨z0, z1, z2, z3, z4, z5, z6, z7, z8, z9, z10, z11, z12⟩ := hS; go_simp; try rfl))) s_wd ?_
  simp only [Act.put, List.setIfInBounds_toArray, List.set_cons_zero, List.set_cons_succ]
  refine anybut_take 2 79 rfl rfl (by kernel_rfl) (by kernel_rfl) (by kernel_rfl) (by kernel_rfl) (by decide) (fun _ _ _ h => h) (yields_of (by rfl) (fun w9 hS => (by obtain ⟨z0, z1, z2, z3, z4, z5, z6, z7, z8, z9, z10, z11, z12⟩ := hS; go_simp; try rfl))) s_wd ?_
  simp only [Act.put, List.setIfInBounds_toArray, List.set_cons_zero, List.set_cons_succ]
  refine AnyBut.one 3 rfl (by kernel_rfl) (by rfl) ?_
  go_simp
  refine (HWA.out WD HB_wd.out).mono ?_; rintro e w2 ⟨rfl, hb2⟩
  have s_w2 : w2.cell? ⟨n0, 0, none⟩ = some (.slice A0 L.nodes.length c0) ∧ w2.cell? ⟨n0, 1, none⟩ = some (.slice (some ⟨sb, so, none⟩) L.secs.length c1) ∧ w2.cell? ⟨n0, 2, none⟩ = some (.slice A2 L.parts.length c2) ∧ w2.cell? ⟨n0, 3, none⟩ = some (.slice A3 L.points.length c3) ∧ w2.cell? ⟨n0, 4, none⟩ = some (.slice A4 L.routes.length c4) ∧ w2.cell? ⟨n0, 5, none⟩ = some (.int .i64 L.speed) ∧ w2.cell? ⟨n0, 6, none⟩ = some (.int .i64 L.mute) ∧ w2.cell? ⟨n0, 7, none⟩ = some (.int .i64 L.wait) ∧ w2.cell? ⟨n0, 8, none⟩ = some (.int .i64 L.cancel) ∧ w2.cell? ⟨n0, 9, none⟩ = some (.int .i64 L.stay) ∧ w2.cell? ⟨nb, 0, none⟩ = some (.int .i64 ln) ∧ w2.cell? ⟨nb, 1, none⟩ = some (.int .i64 a) ∧ w2.cell? ⟨nb, 2, none⟩ = some (.int .i64 b) := ⟨(hb2.cell (p := ⟨n0, 0, none⟩) hz_wd).trans (s_wd.1), (hb2.cell (p := ⟨n0, 1, none⟩) hz_wd).trans (s_wd.2.1), (hb2.cell (p := ⟨n0, 2, none⟩) hz_wd).trans (s_wd.2.2.1), (hb2.cell (p := ⟨n0, 3, none⟩) hz_wd).trans (s_wd.2.2.2.1), (hb2.cell (p := ⟨n0, 4, none⟩) hz_wd).trans (s_wd.2.2.2.2.1), (hb2.cell (p := ⟨n0, 5, none⟩) hz_wd).trans (s_wd.2.2.2.2.2.1), (hb2.cell (p := ⟨n0, 6, none⟩) hz_wd).trans (s_wd.2.2.2.2.2.2.1), (hb2.cell (p := ⟨n0, 7, none⟩) hz_wd).trans (s_wd.2.2.2.2.2.2.2.1), (hb2.cell (p := ⟨n0, 8, none⟩) hz_wd).trans (s_wd.2.2.2.2.2.2.2.2.1), (hb2.cell (p := ⟨n0, 9, none⟩) hz_wd).trans (s_wd.2.2.2.2.2.2.2.2.2.1), (hb2.cell (p := ⟨nb, 0, none⟩) hb_wd).trans (s_wd.2.2.2.2.2.2.2.2.2.2.1), (hb2.cell (p := ⟨nb, 1, none⟩) hb_wd).trans (s_wd.2.2.2.2.2.2.2.2.2.2.2.1), (hb2.cell (p := ⟨nb, 2, none⟩) hb_wd).trans (s_wd.2.2.2.2.2.2.2.2.2.2.2.2)⟩
  have hz_w2 := Nat.lt_of_lt_of_le hz_wd hb2.size
  have hb_w2 := Nat.lt_of_lt_of_le hb_wd hb2.size
  have HB_w2 : Hid (Below W1.heap.size W1 w2) := HB_wd.out.trans (hb2.mono HB_wd.out.size)
  clear hb2 s_wd hz_wd hb_wd
  refine ⟨s_w2, ?_⟩
  refine anybut_take 4 81 rfl rfl (by kernel_rfl) (by kernel_rfl) (by kernel_rfl) (by kernel_rfl) (by decide) (fun _ _ _ h => h) (yields_of (by rfl) (fun w9 hS => (by obtain ⟨z0, z1, z2, z3, z4, z5, z6, z7, z8, z9, z10, z11, z12⟩ := hS; go_simp; try rfl))) s_w2 ?_
  simp only [Act.put, List.setIfInBounds_toArray, List.set_cons_zero, List.set_cons_succ]
  refine anybut_take 5 82 rfl rfl (by kernel_rfl) (by kernel_rfl) (by kernel_rfl) (by kernel_rfl) (by decide) (fun _ _ _ h => h) (yields_of (by rfl) (fun w9 hS => (by obtain ⟨z0, z1, z2, z3, z4, z5, z6, z7, z8, z9, z10, z11, z12⟩ := hS; go_simp; try rfl))) s_w2 ?_
  simp only [Act.put, List.setIfInBounds_toArray, List.set_cons_zero, List.set_cons_succ]
  refine anybut_take 6 83 rfl rfl (by kernel_rfl) (by kernel_rfl) (by kernel_rfl) (by kernel_rfl) (by decide) (fun _ _ _ h => h) (yields_of (by rfl) (fun w9 hS => (by obtain ⟨z0, z1, z2, z3, z4, z5, z6, z7, z8, z9, z10, z11, z12⟩ := hS; go_simp; try rfl))) s_w2 ?_
  simp only [Act.put, List.setIfInBounds_toArray, List.set_cons_zero, List.set_cons_succ]
  refine anybut_take 7 84 rfl rfl (by kernel_rfl) (by kernel_rfl) (by kernel_rfl) (by kernel_rfl) (by decide) (fun _ _ _ h => h) (yields_of (by rfl) (fun w9 hS => (by obtain ⟨z0, z1, z2, z3, z4, z5, z6, z7, z8, z9, z10, z11, z12⟩ := hS; go_simp; try rfl))) s_w2 ?_
  simp only [Act.put, List.setIfInBounds_toArray, List.set_cons_zero, List.set_cons_succ]
  refine AnyBut.one 8 rfl (by kernel_rfl) (by rfl) ?_
  go_simp
  refine (HWB.out w2 HB_w2.out).mono ?_; rintro e w3 ⟨rfl, hb3⟩
  have s_w3 : w3.cell? ⟨n0, 0, none⟩ = some (.slice A0 L.nodes.length c0) ∧ w3.cell? ⟨n0, 1, none⟩ = some (.slice (some ⟨sb, so, none⟩) L.secs.length c1) ∧ w3.cell? ⟨n0, 2, none⟩ = some (.slice A2 L.parts.length c2) ∧ w3.cell? ⟨n0, 3, none⟩ = some (.slice A3 L.points.length c3) ∧ w3.cell? ⟨n0, 4, none⟩ = some (.slice A4 L.routes.length c4) ∧ w3.cell? ⟨n0, 5, none⟩ = some (.int .i64 L.speed) ∧ w3.cell? ⟨n0, 6, none⟩ = some (.int .i64 L.mute) ∧ w3.cell? ⟨n0, 7, none⟩ = some (.int .i64 L.wait) ∧ w3.cell? ⟨n0, 8, none⟩ = some (.int .i64 L.cancel) ∧ w3.cell? ⟨n0, 9, none⟩ = some (.int .i64 L.stay) ∧ w3.cell? ⟨nb, 0, none⟩ = some (.int .i64 ln) ∧ w3.cell? ⟨nb, 1, none⟩ = some (.int .i64 a) ∧ w3.cell? ⟨nb, 2, none⟩ = some (.int .i64 b) := ⟨(hb3.cell (p := ⟨n0, 0, none⟩) hz_w2).trans (s_w2.1), (hb3.cell (p := ⟨n0, 1, none⟩) hz_w2).trans (s_w2.2.1), (hb3.cell (p := ⟨n0, 2, none⟩) hz_w2).trans (s_w2.2.2.1), (hb3.cell (p := ⟨n0, 3, none⟩) hz_w2).trans (s_w2.2.2.2.1), (hb3.cell (p := ⟨n0, 4, none⟩) hz_w2).trans (s_w2.2.2.2.2.1), (hb3.cell (p := ⟨n0, 5, none⟩) hz_w2).trans (s_w2.2.2.2.2.2.1), (hb3.cell (p := ⟨n0, 6, none⟩) hz_w2).trans (s_w2.2.2.2.2.2.2.1), (hb3.cell (p := ⟨n0, 7, none⟩) hz_w2).trans (s_w2.2.2.2.2.2.2.2.1), (hb3.cell (p := ⟨n0, 8, none⟩) hz_w2).trans (s_w2.2.2.2.2.2.2.2.2.1), (hb3.cell (p := ⟨n0, 9, none⟩) hz_w2).trans (s_w2.2.2.2.2.2.2.2.2.2.1), (hb3.cell (p := ⟨nb, 0, none⟩) hb_w2).trans (s_w2.2.2.2.2.2.2.2.2.2.2.1), (hb3.cell (p := ⟨nb, 1, none⟩) hb_w2).trans (s_w2.2.2.2.2.2.2.2.2.2.2.2.1), (hb3.cell (p := ⟨nb, 2, none⟩) hb_w2).trans (s_w2.2.2.2.2.2.2.2.2.2.2.2.2)⟩
  have hz_w3 := Nat.lt_of_lt_of_le hz_w2 hb3.size
  have hb_w3 := Nat.lt_of_lt_of_le hb_w2 hb3.size
  have HB_w3 : Hid (Below W1.heap.size W1 w3) := HB_w2.out.trans (hb3.mono HB_w2.out.size)
  clear hb3 s_w2 hz_w2 hb_w2
  refine ⟨s_w3, ?_⟩
  refine anybut_take 9 86 rfl rfl (by kernel_rfl) (by kernel_rfl) (by kernel_rfl) (by kernel_rfl) (by decide) (fun _ _ _ h => h) (yields_of (by rfl) (fun w9 hS => (by obtain ⟨z0, z1, z2, z3, z4, z5, z6, z7, z8, z9, z10, z11, z12⟩ := hS; go_simp; try rfl))) s_w3 ?_
  simp only [Act.put, List.setIfInBounds_toArray, List.set_cons_zero, List.set_cons_succ]
  refine anybut_take 10 87 rfl rfl (by kernel_rfl) (by kernel_rfl) (by kernel_rfl) (by kernel_rfl) (by decide) (fun _ _ _ h => h) (yields_of (by rfl) (fun w9 hS => (by obtain ⟨z0, z1, z2, z3, z4, z5, z6, z7, z8, z9, z10, z11, z12⟩ := hS; go_simp; try rfl))) s_w3 ?_
  simp only [Act.put, List.setIfInBounds_toArray, List.set_cons_zero, List.set_cons_succ]
  refine anybut_take 11 88 rfl rfl (by kernel_rfl) (by kernel_rfl) (by kernel_rfl) (by kernel_rfl) (by decide) (fun _ _ _ h => h) (Or.inr ⟨by rfl, rfl⟩) s_w3 ?_
  simp only [Act.put, List.setIfInBounds_toArray, List.set_cons_zero, List.set_cons_succ]
  refine anybut_take 12 89 rfl rfl (by kernel_rfl) (by kernel_rfl) (by kernel_rfl) (by kernel_rfl) (by decide) (fun _ _ _ h => h) (Or.inr ⟨by rfl, rfl⟩) s_w3 ?_
  simp only [Act.put, List.setIfInBounds_toArray, List.set_cons_zero, List.set_cons_succ]
  refine anybut_take 13 90 rfl rfl (by kernel_rfl) (by kernel_rfl) (by kernel_rfl) (by kernel_rfl) (by decide) (fun _ _ _ h => h) (Or.inr ⟨by rfl, rfl⟩) s_w3 ?_
  simp only [Act.put, List.setIfInBounds_toArray, List.set_cons_zero, List.set_cons_succ]
  refine anybut_take 14 91 rfl rfl (by kernel_rfl) (by kernel_rfl) (by kernel_rfl) (by kernel_rfl) (by decide) (fun _ _ _ h => h) (Or.inr ⟨by rfl, rfl⟩) s_w3 ?_
  simp only [Act.put, List.setIfInBounds_toArray, List.set_cons_zero, List.set_cons_succ]
  refine anybut_take 15 92 rfl rfl (by kernel_rfl) (by kernel_rfl) (by kernel_rfl) (by kernel_rfl) (by decide) (fun _ _ _ h => h) (Or.inr ⟨by rfl, rfl⟩) s_w3 ?_
  simp only [Act.put, List.setIfInBounds_toArray, List.set_cons_zero, List.set_cons_succ]
  refine anybut_take 16 93 rfl rfl (by kernel_rfl) (by kernel_rfl) (by kernel_rfl) (by kernel_rfl) (by decide) (fun _ _ _ h => h) (Or.inr ⟨by rfl, rfl⟩) s_w3 ?_
  simp only [Act.put, List.setIfInBounds_toArray, List.set_cons_zero, List.set_cons_succ]
  refine anybut_take 17 94 rfl rfl (by kernel_rfl) (by kernel_rfl) (by kernel_rfl) (by kernel_rfl) (by decide) (fun _ _ _ h => h) (Or.inr ⟨by rfl, rfl⟩) s_w3 ?_
  simp only [Act.put, List.setIfInBounds_toArray, List.set_cons_zero, List.set_cons_succ]
  refine anybut_take 18 95 rfl rfl (by kernel_rfl) (by kernel_rfl) (by kernel_rfl) (by kernel_rfl) (by decide) (fun _ _ _ h => h) (Or.inr ⟨by rfl, rfl⟩) s_w3 ?_
  simp only [Act.put, List.setIfInBounds_toArray, List.set_cons_zero, List.set_cons_succ]
  refine anybut_take 19 96 rfl rfl (by kernel_rfl) (by kernel_rfl) (by kernel_rfl) (by kernel_rfl) (by decide) (fun _ _ _ h => h) (Or.inr ⟨by rfl, rfl⟩) s_w3 ?_
  simp only [Act.put, List.setIfInBounds_toArray, List.set_cons_zero, List.set_cons_succ]
  refine anybut_take 20 97 rfl rfl (by kernel_rfl) (by kernel_rfl) (by kernel_rfl) (by kernel_rfl) (by decide) (fun _ _ _ h => h) (Or.inr ⟨by rfl, rfl⟩) s_w3 ?_
  simp only [Act.put, List.setIfInBounds_toArray, List.set_cons_zero, List.set_cons_succ]
  refine anybut_take 21 98 rfl rfl (by kernel_rfl) (by kernel_rfl) (by kernel_rfl) (by kernel_rfl) (by decide) (fun _ _ _ h => h) (Or.inr ⟨by rfl, rfl⟩) s_w3 ?_
  simp only [Act.put, List.setIfInBounds_toArray, List.set_cons_zero, List.set_cons_succ]
  refine anybut_take 22 99 rfl rfl (by kernel_rfl) (by kernel_rfl) (by kernel_rfl) (by kernel_rfl) (by decide) (fun _ _ _ h => h) (Or.inr ⟨by rfl, rfl⟩) s_w3 ?_
  simp only [Act.put, List.setIfInBounds_toArray, List.set_cons_zero, List.set_cons_succ]
  refine anybut_take 23 100 rfl rfl (by kernel_rfl) (by kernel_rfl) (by kernel_rfl) (by kernel_rfl) (by decide) (fun _ _ _ h => h) (Or.inr ⟨by rfl, rfl⟩) s_w3 ?_
  simp only [Act.put, List.setIfInBounds_toArray, List.set_cons_zero, List.set_cons_succ]
  refine anybut_take 24 101 rfl rfl (by kernel_rfl) (by kernel_rfl) (by kernel_rfl) (by kernel_rfl) (by decide) (fun _ _ _ h => h) (Or.inr ⟨by rfl, rfl⟩) s_w3 ?_
  simp only [Act.put, List.setIfInBounds_toArray, List.set_cons_zero, List.set_cons_succ]
  refine anybut_skip 25 102 rfl rfl (by kernel_rfl) (by rfl) s_w3 ?_
  simp only [Act.put, List.setIfInBounds_toArray, List.set_cons_zero, List.set_cons_succ]
  refine anybut_take 26 103 rfl rfl (by kernel_rfl) (by kernel_rfl) (by kernel_rfl) (by kernel_rfl) (by decide) (fun _ _ _ h => h) (yields_of (by rfl) (fun w9 hS => (by obtain ⟨z0, z1, z2, z3, z4, z5, z6, z7, z8, z9, z10, z11, z12⟩ := hS; go_simp; try rfl))) s_w3 ?_
  simp only [Act.put, List.setIfInBounds_toArray, List.set_cons_zero, List.set_cons_succ]
  refine AnyBut.one 27 rfl (by kernel_rfl) (by rfl) ?_
  go_simp
  refine AnyBut.done (by kernel_rfl) ?_
  go_wp2_with fail
  go_ret
  exact ⟨rfl, HBW.out.trans (HB_w3.out.mono HBW.out.size)⟩


end Go.Proofs.YtagkgejdammflaaGreat
