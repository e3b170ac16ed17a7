/- Contract: Right; of the document: node, other, on, places. -/
import Derived.Test.YtagkgejdammflaaGreatV13
namespace Go.Proofs.YtagkgejdammflaaGreat
open Go.RowKit Fl
set_option maxRecDepth 100000

set_option maxHeartbeats 4000000 in
theorem right_any (w : World) (v : Value) (L : Lay) (h : LayV w w.heap.size v L) (hV : Vf L) : Calls Tryz.prog 12 #[v] w (RetL (decide ((firstL L).1 = 0)) w) := by
  have HV0 := Lib.hid h
  obtain ⟨vN, vS, vP, vQ, vR, ps, rfl, hd⟩ := h
  obtain ⟨⟨A0, c0, rfl⟩, ⟨A1, c1, rfl⟩, ⟨A2, c2, rfl⟩, ⟨A3, c3, rfl⟩, ⟨A4, c4, rfl⟩⟩ := hd.slices
  have hbn := (Below.refl w.heap.size w).alloc (Nat.le_refl _) (.cells #[.slice A0 L.nodes.length c0, .slice A1 L.secs.length c1, .slice A2 L.parts.length c2, .slice A3 L.points.length c3, .slice A4 L.routes.length c4, .int .i64 L.speed, .int .i64 L.mute, .int .i64 L.wait, .int .i64 L.cancel, .int .i64 L.stay] 33)
  have HBA := Lib.hid hbn
  have HRA := Lib.hid (Row.new w 33 #[.slice A0 L.nodes.length c0, .slice A1 L.secs.length c1, .slice A2 L.parts.length c2, .slice A3 L.points.length c3, .slice A4 L.routes.length c4, .int .i64 L.speed, .int .i64 L.mute, .int .i64 L.wait, .int .i64 L.cancel, .int .i64 L.stay])
  have HVA := Lib.hid (HV0.out.up hbn)
  have HDA := Lib.hid (hd.mono hbn.size (fun _ hp => hbn.cell hp))
  clear hbn hd HV0
  have HFI := Lib.hid (first_any _ _ L HVA.out hV)
  generalize firstL L = x at *
  obtain ⟨no, at'⟩ := x
  have HBB : Hid (((no : Int) == 0) = decide (no = 0)) := by show _ = _; rw [Bool.eq_iff_iff]; simp
  simp only at HFI ⊢
  clear HVA HDA
  go_enter Tryz.func12, Tryz.ntmps12
  go_upto_region 1 with (fail)
  obtain ⟨n0, hn0⟩ : ∃ n, n = w.heap.size := ⟨_, rfl⟩
  rw [← hn0] at HRA ⊢
  clear hn0
  generalize w.alloc (.cells #[.slice A0 L.nodes.length c0, .slice A1 L.secs.length c1, .slice A2 L.parts.length c2, .slice A3 L.points.length c3, .slice A4 L.routes.length c4, .int .i64 L.speed, .int .i64 L.mute, .int .i64 L.wait, .int .i64 L.cancel, .int .i64 L.stay] 33) = W0 at *
  have l0 : W0.cell? ⟨n0, 0, none⟩ = some (.slice A0 L.nodes.length c0) := by have h := HRA.out.cell 0; simpa using h
  have l1 : W0.cell? ⟨n0, 1, none⟩ = some (.slice A1 L.secs.length c1) := by have h := HRA.out.cell 1; simpa using h
  have l2 : W0.cell? ⟨n0, 2, none⟩ = some (.slice A2 L.parts.length c2) := by have h := HRA.out.cell 2; simpa using h
  have l3 : W0.cell? ⟨n0, 3, none⟩ = some (.slice A3 L.points.length c3) := by have h := HRA.out.cell 3; simpa using h
  have l4 : W0.cell? ⟨n0, 4, none⟩ = some (.slice A4 L.routes.length c4) := by have h := HRA.out.cell 4; simpa using h
  have l5 : W0.cell? ⟨n0, 5, none⟩ = some (.int .i64 L.speed) := by have h := HRA.out.cell 5; simpa using h
  have l6 : W0.cell? ⟨n0, 6, none⟩ = some (.int .i64 L.mute) := by have h := HRA.out.cell 6; simpa using h
  have l7 : W0.cell? ⟨n0, 7, none⟩ = some (.int .i64 L.wait) := by have h := HRA.out.cell 7; simpa using h
  have l8 : W0.cell? ⟨n0, 8, none⟩ = some (.int .i64 L.cancel) := by have h := HRA.out.cell 8; simpa using h
  have l9 : W0.cell? ⟨n0, 9, none⟩ = some (.int .i64 L.stay) := by have h := HRA.out.cell 9; simpa using h
  clear HRA
  go_wp2_with fail
  refine HFI.out.mono ?_; rintro e w1 ⟨rfl, hb⟩
  have HB2 := Lib.hid (HBA.out.trans (hb.mono HBA.out.size))
  clear hb
  go_wp2_with fail
  go_ret
  exact ⟨ret_bool HBB.out, HB2.out⟩

set_option maxHeartbeats 4000000 in
theorem refNode52_any (w : World) (v : Value) (L : Lay) (n : Int) (h : LayV w w.heap.size v L) : Calls Tryz.prog 52 #[v, .int .i64 n] w (RetL (inB n 0 ((L.nodes.length : Int) - 1)) w) := by
  have HV0 := Lib.hid h
  obtain ⟨vN, vS, vP, vQ, vR, ps, rfl, hd⟩ := h
  obtain ⟨⟨A0, c0, rfl⟩, ⟨A1, c1, rfl⟩, ⟨A2, c2, rfl⟩, ⟨A3, c3, rfl⟩, ⟨A4, c4, rfl⟩⟩ := hd.slices
  have hbn := (Below.refl w.heap.size w).alloc (Nat.le_refl _) (.cells #[.slice A0 L.nodes.length c0, .slice A1 L.secs.length c1, .slice A2 L.parts.length c2, .slice A3 L.points.length c3, .slice A4 L.routes.length c4, .int .i64 L.speed, .int .i64 L.mute, .int .i64 L.wait, .int .i64 L.cancel, .int .i64 L.stay] 33)
  have HBA := Lib.hid hbn
  have HRA := Lib.hid (Row.new w 33 #[.slice A0 L.nodes.length c0, .slice A1 L.secs.length c1, .slice A2 L.parts.length c2, .slice A3 L.points.length c3, .slice A4 L.routes.length c4, .int .i64 L.speed, .int .i64 L.mute, .int .i64 L.wait, .int .i64 L.cancel, .int .i64 L.stay])
  have HVA := Lib.hid (HV0.out.up hbn)
  have HDA := Lib.hid (hd.mono hbn.size (fun _ hp => hbn.cell hp))
  clear hbn hd HV0
  clear HVA HDA
  have HF : Hid (inB n 0 ((L.nodes.length : Int) - 1) = decide (0 ≤ n ∧ n ≤ (L.nodes.length : Int) - 1)) := rfl
  rw [HF.out]
  obtain ⟨B, hB⟩ : ∃ B, B = decide (0 ≤ n ∧ n ≤ (L.nodes.length : Int) - 1) := ⟨_, rfl⟩
  rw [← hB]
  by_cases a : 0 ≤ n
  · by_cases b : n < (L.nodes.length : Int)
    · have HR : Hid (B = true) := by show _ = _; rw [hB]; exact decide_eq_true ⟨a, by omega⟩
      clear hB HF
      go_enter Tryz.func52, Tryz.ntmps52
      go_upto_region 1 with (fail)
      obtain ⟨n0, hn0⟩ : ∃ n, n = w.heap.size := ⟨_, rfl⟩
      rw [← hn0] at HRA ⊢
      clear hn0
      generalize w.alloc (.cells #[.slice A0 L.nodes.length c0, .slice A1 L.secs.length c1, .slice A2 L.parts.length c2, .slice A3 L.points.length c3, .slice A4 L.routes.length c4, .int .i64 L.speed, .int .i64 L.mute, .int .i64 L.wait, .int .i64 L.cancel, .int .i64 L.stay] 33) = W0 at *
      have l0 : W0.cell? ⟨n0, 0, none⟩ = some (.slice A0 L.nodes.length c0) := by have h := HRA.out.cell 0; simpa using h
      clear HRA
      go_wp2_with fail
      go_ret
      exact ⟨ret_bool HR.out.symm, HBA.out⟩
    · have HR : Hid (B = false) := by show _ = _; rw [hB]; exact decide_eq_false (by omega)
      clear hB HF
      go_enter Tryz.func52, Tryz.ntmps52
      go_upto_region 1 with (fail)
      obtain ⟨n0, hn0⟩ : ∃ n, n = w.heap.size := ⟨_, rfl⟩
      rw [← hn0] at HRA ⊢
      clear hn0
      generalize w.alloc (.cells #[.slice A0 L.nodes.length c0, .slice A1 L.secs.length c1, .slice A2 L.parts.length c2, .slice A3 L.points.length c3, .slice A4 L.routes.length c4, .int .i64 L.speed, .int .i64 L.mute, .int .i64 L.wait, .int .i64 L.cancel, .int .i64 L.stay] 33) = W0 at *
      have l0 : W0.cell? ⟨n0, 0, none⟩ = some (.slice A0 L.nodes.length c0) := by have h := HRA.out.cell 0; simpa using h
      clear HRA
      go_wp2_with fail
      go_ret
      exact ⟨ret_bool HR.out.symm, HBA.out⟩
  · have HR : Hid (B = false) := by show _ = _; rw [hB]; exact decide_eq_false (by omega)
    clear hB HF
    go_enter Tryz.func52, Tryz.ntmps52
    go_upto_region 1 with (fail)
    obtain ⟨n0, hn0⟩ : ∃ n, n = w.heap.size := ⟨_, rfl⟩
    rw [← hn0] at HRA ⊢
    clear hn0
    generalize w.alloc (.cells #[.slice A0 L.nodes.length c0, .slice A1 L.secs.length c1, .slice A2 L.parts.length c2, .slice A3 L.points.length c3, .slice A4 L.routes.length c4, .int .i64 L.speed, .int .i64 L.mute, .int .i64 L.wait, .int .i64 L.cancel, .int .i64 L.stay] 33) = W0 at *
    have l0 : W0.cell? ⟨n0, 0, none⟩ = some (.slice A0 L.nodes.length c0) := by have h := HRA.out.cell 0; simpa using h
    clear HRA
    go_wp2_with fail
    go_ret
    exact ⟨ret_bool HR.out.symm, HBA.out⟩

/-- A layout by value, its nodes' words known. -/
def LayW (w : World) (D : Nat) (v : Value) (ps : List (Nat × Nat)) (L : Lay) : Prop :=
  ∃ A0 c0 A1 c1 A2 c2 A3 c3 A4 c4, v = .agg #[.slice A0 L.nodes.length c0, .slice A1 L.secs.length c1, .slice A2 L.parts.length c2, .slice A3 L.points.length c3, .slice A4 L.routes.length c4, .int .i64 L.speed, .int .i64 L.mute, .int .i64 L.wait, .int .i64 L.cancel, .int .i64 L.stay] ∧ LayData w D (.slice A0 L.nodes.length c0) (.slice A1 L.secs.length c1) (.slice A2 L.parts.length c2) (.slice A3 L.points.length c3) (.slice A4 L.routes.length c4) ps L
theorem LayW.v {w : World} {D : Nat} {v : Value} {ps : List (Nat × Nat)} {L : Lay} (h : LayW w D v ps L) : LayV w D v L := by
  obtain ⟨A0, c0, A1, c1, A2, c2, A3, c3, A4, c4, rfl, hd⟩ := h
  exact ⟨_, _, _, _, _, ps, rfl, hd⟩
theorem LayV.w {w : World} {D : Nat} {v : Value} {L : Lay} (h : LayV w D v L) : ∃ ps, LayW w D v ps L := by
  obtain ⟨vN, vS, vP, vQ, vR, ps, rfl, hd⟩ := h
  obtain ⟨⟨A0, c0, rfl⟩, ⟨A1, c1, rfl⟩, ⟨A2, c2, rfl⟩, ⟨A3, c3, rfl⟩, ⟨A4, c4, rfl⟩⟩ := hd.slices
  exact ⟨ps, A0, c0, A1, c1, A2, c2, A3, c3, A4, c4, rfl, hd⟩
theorem LayW.up {w w' : World} {v : Value} {ps : List (Nat × Nat)} {L : Lay} (h : LayW w w.heap.size v ps L) (hb : Below w.heap.size w w') : LayW w' w'.heap.size v ps L := by
  obtain ⟨A0, c0, A1, c1, A2, c2, A3, c3, A4, c4, rfl, hd⟩ := h
  exact ⟨A0, c0, A1, c1, A2, c2, A3, c3, A4, c4, rfl, hd.mono hb.size (fun _ hp => hb.cell hp)⟩

set_option maxHeartbeats 4000000 in
theorem refOther_any (w : World) (v : Value) (ps : List (Nat × Nat)) (L : Lay) (h : LayW w w.heap.size v ps L) (hN : Noded L) (i : Nat) (hi : i < L.secs.length) (n : Int) :
    Calls Tryz.prog 71 #[v, .int .i64 i, .int .i64 n] w fun e w' => e = .returned (.complex .f64 (wd ps (otherN L.secs[i] n).toNat).1 (wd ps (otherN L.secs[i] n).toNat).2) ∧ Below w.heap.size w w' := by
  obtain ⟨A0, c0, A1, c1, A2, c2, A3, c3, A4, c4, rfl, hd⟩ := h
  have hbn := (Below.refl w.heap.size w).alloc (Nat.le_refl _) (.cells #[.slice A0 L.nodes.length c0, .slice A1 L.secs.length c1, .slice A2 L.parts.length c2, .slice A3 L.points.length c3, .slice A4 L.routes.length c4, .int .i64 L.speed, .int .i64 L.mute, .int .i64 L.wait, .int .i64 L.cancel, .int .i64 L.stay] 33)
  have HBA := Lib.hid hbn
  have HRA := Lib.hid (Row.new w 33 #[.slice A0 L.nodes.length c0, .slice A1 L.secs.length c1, .slice A2 L.parts.length c2, .slice A3 L.points.length c3, .slice A4 L.routes.length c4, .int .i64 L.speed, .int .i64 L.mute, .int .i64 L.wait, .int .i64 L.cancel, .int .i64 L.stay])
  have hd := hd.mono hbn.size (fun _ hp => hbn.cell hp)
  clear hbn
  obtain ⟨A', c', hv, hx⟩ := hd.s
  obtain ⟨sb, so, hA, hsb, hc⟩ := hx (by omega)
  injection hv with e1 _ e3
  subst e1 e3
  subst hA
  obtain ⟨q0, q1, q2⟩ := hc i hi
  obtain ⟨a, b, ha, hb, han, hbn⟩ := hN _ (List.getElem_mem hi)
  have hi2 : (i : Int) < (L.secs.length : Int) := by omega
  have hi3 : (0 : Int) ≤ (i : Int) := by omega
  have hps : ps.length = L.nodes.length := hd.f.1
  obtain ⟨nb, no, hA0, hnb, ca⟩ := hd.n.at (i := a) (u := .complex .f64 (wd ps a).1 (wd ps a).2) (by simp [nvals, wd, hps, han])
  obtain ⟨nb', no', hA0', _, cb⟩ := hd.n.at (i := b) (u := .complex .f64 (wd ps b).1 (wd ps b).2) (by simp [nvals, wd, hps, hbn])
  subst hA0
  injection hA0' with hA0'
  injection hA0' with z1 z2
  subst z1 z2
  have HSN : Hid (w.heap.size ≤ (w.alloc (.cells #[.slice (some ⟨nb, no, none⟩) L.nodes.length c0, .slice (some ⟨sb, so, none⟩) L.secs.length c1, .slice A2 L.parts.length c2, .slice A3 L.points.length c3, .slice A4 L.routes.length c4, .int .i64 L.speed, .int .i64 L.mute, .int .i64 L.wait, .int .i64 L.cancel, .int .i64 L.stay] 33)).heap.size) := HBA.out.size
  generalize L.secs[i] = z at *
  obtain ⟨ln, a', b'⟩ := z
  simp only at q0 q1 q2 ha hb
  subst ha hb
  have hanI : (a : Int) < (L.nodes.length : Int) := by omega
  have hbnI : (b : Int) < (L.nodes.length : Int) := by omega
  have han0 : (0 : Int) ≤ (a : Int) := by omega
  have hbn0 : (0 : Int) ≤ (b : Int) := by omega
  clear hx hc hN hd hps hnb hsb
  have HQ : Hid (_ ∧ _ ∧ _ ∧ _ ∧ _) := ⟨q0, q1, q2, ca, cb⟩
  clear q0 q1 q2 ca cb
  by_cases hz : (a : Int) = n
  · have ho : otherN (ln, (a : Int), (b : Int)) n = (b : Int) := by unfold otherN; rw [if_pos hz]
    rw [ho, Int.toNat_natCast]
    have hz2 : ((a : Int) == n) = true := by simpa using hz
    clear hz ho
    generalize wd ps a = pa at *
    generalize wd ps b = p at *
    obtain ⟨p1, p2⟩ := p
    simp only at HQ ⊢
    go_enter Tryz.func71, Tryz.ntmps71
    go_upto_region 1 with (fail)
    obtain ⟨n0, hn0⟩ : ∃ n, n = w.heap.size := ⟨_, rfl⟩
    rw [← hn0] at HRA ⊢
    clear hn0
    generalize w.alloc (.cells #[.slice (some ⟨nb, no, none⟩) L.nodes.length c0, .slice (some ⟨sb, so, none⟩) L.secs.length c1, .slice A2 L.parts.length c2, .slice A3 L.points.length c3, .slice A4 L.routes.length c4, .int .i64 L.speed, .int .i64 L.mute, .int .i64 L.wait, .int .i64 L.cancel, .int .i64 L.stay] 33) = W0 at *
    have l0 : W0.cell? ⟨n0, 0, none⟩ = some (.slice (some ⟨nb, no, none⟩) L.nodes.length c0) := by have h := HRA.out.cell 0; simpa using h
    have l1 : W0.cell? ⟨n0, 1, none⟩ = some (.slice (some ⟨sb, so, none⟩) L.secs.length c1) := by have h := HRA.out.cell 1; simpa using h
    obtain ⟨q0, q1, q2, ca, cb⟩ := HQ.out
    have HB2 : Hid (Below W0.heap.size W0 (W0.alloc (.cells #[.int .i64 ln, .int .i64 (a : Int), .int .i64 (b : Int)] 39))) := (Below.refl _ _).alloc (Nat.le_refl _) _
    have HR2 := Lib.hid (Row.new W0 39 #[.int .i64 ln, .int .i64 (a : Int), .int .i64 (b : Int)])
    have HM0 := Lib.hid ((HB2.out.cell (p := ⟨n0, 0, none⟩) HRA.out.lt).trans l0)
    have HMN := Lib.hid ((HB2.out.cell (p := ⟨nb, _, none⟩) (cell_lt cb)).trans cb)
    have HBX : Hid (Below w.heap.size w (W0.alloc (.cells #[.int .i64 ln, .int .i64 (a : Int), .int .i64 (b : Int)] 39))) := HBA.out.alloc HSN.out _
    clear HRA HQ
    go_upto_region 2 with (fail)
    have g1 := HR2.out.cell 1; have g2 := HR2.out.cell 2
    simp only [List.getElem?_toArray, List.getElem?_cons_zero, List.getElem?_cons_succ] at g1 g2
    have m0 := HM0.out; have mn := HMN.out
    generalize W0.alloc (.cells #[.int .i64 ln, .int .i64 (a : Int), .int .i64 (b : Int)] 39) = W1 at *
    clear l0 l1 q0 q1 q2 ca cb HM0 HMN HR2
    go_wp2_with fail
    go_ret
    exact ⟨rfl, HBX.out⟩
  · have ho : otherN (ln, (a : Int), (b : Int)) n = (a : Int) := by unfold otherN; rw [if_neg hz]
    rw [ho, Int.toNat_natCast]
    have hz2 : ((a : Int) == n) = false := by simpa using hz
    clear hz ho
    generalize wd ps b = pb at *
    generalize wd ps a = p at *
    obtain ⟨p1, p2⟩ := p
    simp only at HQ ⊢
    go_enter Tryz.func71, Tryz.ntmps71
    go_upto_region 1 with (fail)
    obtain ⟨n0, hn0⟩ : ∃ n, n = w.heap.size := ⟨_, rfl⟩
    rw [← hn0] at HRA ⊢
    clear hn0
    generalize w.alloc (.cells #[.slice (some ⟨nb, no, none⟩) L.nodes.length c0, .slice (some ⟨sb, so, none⟩) L.secs.length c1, .slice A2 L.parts.length c2, .slice A3 L.points.length c3, .slice A4 L.routes.length c4, .int .i64 L.speed, .int .i64 L.mute, .int .i64 L.wait, .int .i64 L.cancel, .int .i64 L.stay] 33) = W0 at *
    have l0 : W0.cell? ⟨n0, 0, none⟩ = some (.slice (some ⟨nb, no, none⟩) L.nodes.length c0) := by have h := HRA.out.cell 0; simpa using h
    have l1 : W0.cell? ⟨n0, 1, none⟩ = some (.slice (some ⟨sb, so, none⟩) L.secs.length c1) := by have h := HRA.out.cell 1; simpa using h
    obtain ⟨q0, q1, q2, ca, cb⟩ := HQ.out
    have HB2 : Hid (Below W0.heap.size W0 (W0.alloc (.cells #[.int .i64 ln, .int .i64 (a : Int), .int .i64 (b : Int)] 39))) := (Below.refl _ _).alloc (Nat.le_refl _) _
    have HR2 := Lib.hid (Row.new W0 39 #[.int .i64 ln, .int .i64 (a : Int), .int .i64 (b : Int)])
    have HM0 := Lib.hid ((HB2.out.cell (p := ⟨n0, 0, none⟩) HRA.out.lt).trans l0)
    have HMN := Lib.hid ((HB2.out.cell (p := ⟨nb, _, none⟩) (cell_lt ca)).trans ca)
    have HBX : Hid (Below w.heap.size w (W0.alloc (.cells #[.int .i64 ln, .int .i64 (a : Int), .int .i64 (b : Int)] 39))) := HBA.out.alloc HSN.out _
    clear HRA HQ
    go_upto_region 2 with (fail)
    have g1 := HR2.out.cell 1; have g2 := HR2.out.cell 2
    simp only [List.getElem?_toArray, List.getElem?_cons_zero, List.getElem?_cons_succ] at g1 g2
    have m0 := HM0.out; have mn := HMN.out
    generalize W0.alloc (.cells #[.int .i64 ln, .int .i64 (a : Int), .int .i64 (b : Int)] 39) = W1 at *
    clear l0 l1 q0 q1 q2 ca cb HM0 HMN HR2
    go_wp2_with fail
    go_ret
    exact ⟨rfl, HBX.out⟩

set_option maxHeartbeats 4000000 in
theorem places1 (w : World) (v : Value) (L : Lay) (h : LayV w w.heap.size v L) : Calls Tryz.prog 25 #[v, .int .i64 1] w fun e w' => e = .returned (.tuple #[.int .i64 (1 : Nat), .int .i64 (0 : Nat)]) ∧ Below w.heap.size w w' := by
  have HV0 := Lib.hid h
  obtain ⟨vN, vS, vP, vQ, vR, ps, rfl, hd⟩ := h
  obtain ⟨⟨A0, c0, rfl⟩, ⟨A1, c1, rfl⟩, ⟨A2, c2, rfl⟩, ⟨A3, c3, rfl⟩, ⟨A4, c4, rfl⟩⟩ := hd.slices
  have hbn := (Below.refl w.heap.size w).alloc (Nat.le_refl _) (.cells #[.slice A0 L.nodes.length c0, .slice A1 L.secs.length c1, .slice A2 L.parts.length c2, .slice A3 L.points.length c3, .slice A4 L.routes.length c4, .int .i64 L.speed, .int .i64 L.mute, .int .i64 L.wait, .int .i64 L.cancel, .int .i64 L.stay] 33)
  have HBA := Lib.hid hbn
  have HRA := Lib.hid (Row.new w 33 #[.slice A0 L.nodes.length c0, .slice A1 L.secs.length c1, .slice A2 L.parts.length c2, .slice A3 L.points.length c3, .slice A4 L.routes.length c4, .int .i64 L.speed, .int .i64 L.mute, .int .i64 L.wait, .int .i64 L.cancel, .int .i64 L.stay])
  have HVA := Lib.hid (HV0.out.up hbn)
  have HDA := Lib.hid (hd.mono hbn.size (fun _ hp => hbn.cell hp))
  clear hbn hd HV0
  clear HVA HDA
  go_enter Tryz.func25, Tryz.ntmps25
  go_upto_region 1 with (fail)
  obtain ⟨n0, hn0⟩ : ∃ n, n = w.heap.size := ⟨_, rfl⟩
  rw [← hn0] at HRA ⊢
  clear hn0
  generalize w.alloc (.cells #[.slice A0 L.nodes.length c0, .slice A1 L.secs.length c1, .slice A2 L.parts.length c2, .slice A3 L.points.length c3, .slice A4 L.routes.length c4, .int .i64 L.speed, .int .i64 L.mute, .int .i64 L.wait, .int .i64 L.cancel, .int .i64 L.stay] 33) = W0 at *
  clear HRA
  go_wp2_with fail
  go_ret2
  exact ⟨rfl, HBA.out⟩

set_option maxHeartbeats 4000000 in
theorem places2 (w : World) (v : Value) (L : Lay) (h : LayV w w.heap.size v L) : Calls Tryz.prog 25 #[v, .int .i64 2] w fun e w' => e = .returned (.tuple #[.int .i64 (L.nodes.length : Nat), .int .i64 (0 : Nat)]) ∧ Below w.heap.size w w' := by
  have HV0 := Lib.hid h
  obtain ⟨vN, vS, vP, vQ, vR, ps, rfl, hd⟩ := h
  obtain ⟨⟨A0, c0, rfl⟩, ⟨A1, c1, rfl⟩, ⟨A2, c2, rfl⟩, ⟨A3, c3, rfl⟩, ⟨A4, c4, rfl⟩⟩ := hd.slices
  have hbn := (Below.refl w.heap.size w).alloc (Nat.le_refl _) (.cells #[.slice A0 L.nodes.length c0, .slice A1 L.secs.length c1, .slice A2 L.parts.length c2, .slice A3 L.points.length c3, .slice A4 L.routes.length c4, .int .i64 L.speed, .int .i64 L.mute, .int .i64 L.wait, .int .i64 L.cancel, .int .i64 L.stay] 33)
  have HBA := Lib.hid hbn
  have HRA := Lib.hid (Row.new w 33 #[.slice A0 L.nodes.length c0, .slice A1 L.secs.length c1, .slice A2 L.parts.length c2, .slice A3 L.points.length c3, .slice A4 L.routes.length c4, .int .i64 L.speed, .int .i64 L.mute, .int .i64 L.wait, .int .i64 L.cancel, .int .i64 L.stay])
  have HVA := Lib.hid (HV0.out.up hbn)
  have HDA := Lib.hid (hd.mono hbn.size (fun _ hp => hbn.cell hp))
  clear hbn hd HV0
  clear HVA HDA
  go_enter Tryz.func25, Tryz.ntmps25
  go_upto_region 1 with (fail)
  obtain ⟨n0, hn0⟩ : ∃ n, n = w.heap.size := ⟨_, rfl⟩
  rw [← hn0] at HRA ⊢
  clear hn0
  generalize w.alloc (.cells #[.slice A0 L.nodes.length c0, .slice A1 L.secs.length c1, .slice A2 L.parts.length c2, .slice A3 L.points.length c3, .slice A4 L.routes.length c4, .int .i64 L.speed, .int .i64 L.mute, .int .i64 L.wait, .int .i64 L.cancel, .int .i64 L.stay] 33) = W0 at *
  have l0 : W0.cell? ⟨n0, 0, none⟩ = some (.slice A0 L.nodes.length c0) := by have h := HRA.out.cell 0; simpa using h
  clear HRA
  go_wp2_with fail
  go_ret2
  exact ⟨rfl, HBA.out⟩

set_option maxHeartbeats 4000000 in
theorem places3 (w : World) (v : Value) (L : Lay) (h : LayV w w.heap.size v L) : Calls Tryz.prog 25 #[v, .int .i64 3] w fun e w' => e = .returned (.tuple #[.int .i64 (1 : Nat), .int .i64 (0 : Nat)]) ∧ Below w.heap.size w w' := by
  have HV0 := Lib.hid h
  obtain ⟨vN, vS, vP, vQ, vR, ps, rfl, hd⟩ := h
  obtain ⟨⟨A0, c0, rfl⟩, ⟨A1, c1, rfl⟩, ⟨A2, c2, rfl⟩, ⟨A3, c3, rfl⟩, ⟨A4, c4, rfl⟩⟩ := hd.slices
  have hbn := (Below.refl w.heap.size w).alloc (Nat.le_refl _) (.cells #[.slice A0 L.nodes.length c0, .slice A1 L.secs.length c1, .slice A2 L.parts.length c2, .slice A3 L.points.length c3, .slice A4 L.routes.length c4, .int .i64 L.speed, .int .i64 L.mute, .int .i64 L.wait, .int .i64 L.cancel, .int .i64 L.stay] 33)
  have HBA := Lib.hid hbn
  have HRA := Lib.hid (Row.new w 33 #[.slice A0 L.nodes.length c0, .slice A1 L.secs.length c1, .slice A2 L.parts.length c2, .slice A3 L.points.length c3, .slice A4 L.routes.length c4, .int .i64 L.speed, .int .i64 L.mute, .int .i64 L.wait, .int .i64 L.cancel, .int .i64 L.stay])
  have HVA := Lib.hid (HV0.out.up hbn)
  have HDA := Lib.hid (hd.mono hbn.size (fun _ hp => hbn.cell hp))
  clear hbn hd HV0
  clear HVA HDA
  go_enter Tryz.func25, Tryz.ntmps25
  go_upto_region 1 with (fail)
  obtain ⟨n0, hn0⟩ : ∃ n, n = w.heap.size := ⟨_, rfl⟩
  rw [← hn0] at HRA ⊢
  clear hn0
  generalize w.alloc (.cells #[.slice A0 L.nodes.length c0, .slice A1 L.secs.length c1, .slice A2 L.parts.length c2, .slice A3 L.points.length c3, .slice A4 L.routes.length c4, .int .i64 L.speed, .int .i64 L.mute, .int .i64 L.wait, .int .i64 L.cancel, .int .i64 L.stay] 33) = W0 at *
  clear HRA
  go_wp2_with fail
  go_ret2
  exact ⟨rfl, HBA.out⟩

set_option maxHeartbeats 4000000 in
theorem places4 (w : World) (v : Value) (L : Lay) (h : LayV w w.heap.size v L) : Calls Tryz.prog 25 #[v, .int .i64 4] w fun e w' => e = .returned (.tuple #[.int .i64 (L.secs.length : Nat), .int .i64 (0 : Nat)]) ∧ Below w.heap.size w w' := by
  have HV0 := Lib.hid h
  obtain ⟨vN, vS, vP, vQ, vR, ps, rfl, hd⟩ := h
  obtain ⟨⟨A0, c0, rfl⟩, ⟨A1, c1, rfl⟩, ⟨A2, c2, rfl⟩, ⟨A3, c3, rfl⟩, ⟨A4, c4, rfl⟩⟩ := hd.slices
  have hbn := (Below.refl w.heap.size w).alloc (Nat.le_refl _) (.cells #[.slice A0 L.nodes.length c0, .slice A1 L.secs.length c1, .slice A2 L.parts.length c2, .slice A3 L.points.length c3, .slice A4 L.routes.length c4, .int .i64 L.speed, .int .i64 L.mute, .int .i64 L.wait, .int .i64 L.cancel, .int .i64 L.stay] 33)
  have HBA := Lib.hid hbn
  have HRA := Lib.hid (Row.new w 33 #[.slice A0 L.nodes.length c0, .slice A1 L.secs.length c1, .slice A2 L.parts.length c2, .slice A3 L.points.length c3, .slice A4 L.routes.length c4, .int .i64 L.speed, .int .i64 L.mute, .int .i64 L.wait, .int .i64 L.cancel, .int .i64 L.stay])
  have HVA := Lib.hid (HV0.out.up hbn)
  have HDA := Lib.hid (hd.mono hbn.size (fun _ hp => hbn.cell hp))
  clear hbn hd HV0
  clear HVA HDA
  go_enter Tryz.func25, Tryz.ntmps25
  go_upto_region 1 with (fail)
  obtain ⟨n0, hn0⟩ : ∃ n, n = w.heap.size := ⟨_, rfl⟩
  rw [← hn0] at HRA ⊢
  clear hn0
  generalize w.alloc (.cells #[.slice A0 L.nodes.length c0, .slice A1 L.secs.length c1, .slice A2 L.parts.length c2, .slice A3 L.points.length c3, .slice A4 L.routes.length c4, .int .i64 L.speed, .int .i64 L.mute, .int .i64 L.wait, .int .i64 L.cancel, .int .i64 L.stay] 33) = W0 at *
  have l1 : W0.cell? ⟨n0, 1, none⟩ = some (.slice A1 L.secs.length c1) := by have h := HRA.out.cell 1; simpa using h
  clear HRA
  go_wp2_with fail
  go_ret2
  exact ⟨rfl, HBA.out⟩

set_option maxHeartbeats 4000000 in
theorem places5 (w : World) (v : Value) (L : Lay) (h : LayV w w.heap.size v L) : Calls Tryz.prog 25 #[v, .int .i64 5] w fun e w' => e = .returned (.tuple #[.int .i64 (1 : Nat), .int .i64 (0 : Nat)]) ∧ Below w.heap.size w w' := by
  have HV0 := Lib.hid h
  obtain ⟨vN, vS, vP, vQ, vR, ps, rfl, hd⟩ := h
  obtain ⟨⟨A0, c0, rfl⟩, ⟨A1, c1, rfl⟩, ⟨A2, c2, rfl⟩, ⟨A3, c3, rfl⟩, ⟨A4, c4, rfl⟩⟩ := hd.slices
  have hbn := (Below.refl w.heap.size w).alloc (Nat.le_refl _) (.cells #[.slice A0 L.nodes.length c0, .slice A1 L.secs.length c1, .slice A2 L.parts.length c2, .slice A3 L.points.length c3, .slice A4 L.routes.length c4, .int .i64 L.speed, .int .i64 L.mute, .int .i64 L.wait, .int .i64 L.cancel, .int .i64 L.stay] 33)
  have HBA := Lib.hid hbn
  have HRA := Lib.hid (Row.new w 33 #[.slice A0 L.nodes.length c0, .slice A1 L.secs.length c1, .slice A2 L.parts.length c2, .slice A3 L.points.length c3, .slice A4 L.routes.length c4, .int .i64 L.speed, .int .i64 L.mute, .int .i64 L.wait, .int .i64 L.cancel, .int .i64 L.stay])
  have HVA := Lib.hid (HV0.out.up hbn)
  have HDA := Lib.hid (hd.mono hbn.size (fun _ hp => hbn.cell hp))
  clear hbn hd HV0
  clear HVA HDA
  go_enter Tryz.func25, Tryz.ntmps25
  go_upto_region 1 with (fail)
  obtain ⟨n0, hn0⟩ : ∃ n, n = w.heap.size := ⟨_, rfl⟩
  rw [← hn0] at HRA ⊢
  clear hn0
  generalize w.alloc (.cells #[.slice A0 L.nodes.length c0, .slice A1 L.secs.length c1, .slice A2 L.parts.length c2, .slice A3 L.points.length c3, .slice A4 L.routes.length c4, .int .i64 L.speed, .int .i64 L.mute, .int .i64 L.wait, .int .i64 L.cancel, .int .i64 L.stay] 33) = W0 at *
  clear HRA
  go_wp2_with fail
  go_ret2
  exact ⟨rfl, HBA.out⟩

set_option maxHeartbeats 4000000 in
theorem places6 (w : World) (v : Value) (L : Lay) (h : LayV w w.heap.size v L) : Calls Tryz.prog 25 #[v, .int .i64 6] w fun e w' => e = .returned (.tuple #[.int .i64 (L.secs.length : Nat), .int .i64 (0 : Nat)]) ∧ Below w.heap.size w w' := by
  have HV0 := Lib.hid h
  obtain ⟨vN, vS, vP, vQ, vR, ps, rfl, hd⟩ := h
  obtain ⟨⟨A0, c0, rfl⟩, ⟨A1, c1, rfl⟩, ⟨A2, c2, rfl⟩, ⟨A3, c3, rfl⟩, ⟨A4, c4, rfl⟩⟩ := hd.slices
  have hbn := (Below.refl w.heap.size w).alloc (Nat.le_refl _) (.cells #[.slice A0 L.nodes.length c0, .slice A1 L.secs.length c1, .slice A2 L.parts.length c2, .slice A3 L.points.length c3, .slice A4 L.routes.length c4, .int .i64 L.speed, .int .i64 L.mute, .int .i64 L.wait, .int .i64 L.cancel, .int .i64 L.stay] 33)
  have HBA := Lib.hid hbn
  have HRA := Lib.hid (Row.new w 33 #[.slice A0 L.nodes.length c0, .slice A1 L.secs.length c1, .slice A2 L.parts.length c2, .slice A3 L.points.length c3, .slice A4 L.routes.length c4, .int .i64 L.speed, .int .i64 L.mute, .int .i64 L.wait, .int .i64 L.cancel, .int .i64 L.stay])
  have HVA := Lib.hid (HV0.out.up hbn)
  have HDA := Lib.hid (hd.mono hbn.size (fun _ hp => hbn.cell hp))
  clear hbn hd HV0
  clear HVA HDA
  go_enter Tryz.func25, Tryz.ntmps25
  go_upto_region 1 with (fail)
  obtain ⟨n0, hn0⟩ : ∃ n, n = w.heap.size := ⟨_, rfl⟩
  rw [← hn0] at HRA ⊢
  clear hn0
  generalize w.alloc (.cells #[.slice A0 L.nodes.length c0, .slice A1 L.secs.length c1, .slice A2 L.parts.length c2, .slice A3 L.points.length c3, .slice A4 L.routes.length c4, .int .i64 L.speed, .int .i64 L.mute, .int .i64 L.wait, .int .i64 L.cancel, .int .i64 L.stay] 33) = W0 at *
  have l1 : W0.cell? ⟨n0, 1, none⟩ = some (.slice A1 L.secs.length c1) := by have h := HRA.out.cell 1; simpa using h
  clear HRA
  go_wp2_with fail
  go_ret2
  exact ⟨rfl, HBA.out⟩

set_option maxHeartbeats 4000000 in
theorem places7 (w : World) (v : Value) (L : Lay) (h : LayV w w.heap.size v L) : Calls Tryz.prog 25 #[v, .int .i64 7] w fun e w' => e = .returned (.tuple #[.int .i64 (1 : Nat), .int .i64 (0 : Nat)]) ∧ Below w.heap.size w w' := by
  have HV0 := Lib.hid h
  obtain ⟨vN, vS, vP, vQ, vR, ps, rfl, hd⟩ := h
  obtain ⟨⟨A0, c0, rfl⟩, ⟨A1, c1, rfl⟩, ⟨A2, c2, rfl⟩, ⟨A3, c3, rfl⟩, ⟨A4, c4, rfl⟩⟩ := hd.slices
  have hbn := (Below.refl w.heap.size w).alloc (Nat.le_refl _) (.cells #[.slice A0 L.nodes.length c0, .slice A1 L.secs.length c1, .slice A2 L.parts.length c2, .slice A3 L.points.length c3, .slice A4 L.routes.length c4, .int .i64 L.speed, .int .i64 L.mute, .int .i64 L.wait, .int .i64 L.cancel, .int .i64 L.stay] 33)
  have HBA := Lib.hid hbn
  have HRA := Lib.hid (Row.new w 33 #[.slice A0 L.nodes.length c0, .slice A1 L.secs.length c1, .slice A2 L.parts.length c2, .slice A3 L.points.length c3, .slice A4 L.routes.length c4, .int .i64 L.speed, .int .i64 L.mute, .int .i64 L.wait, .int .i64 L.cancel, .int .i64 L.stay])
  have HVA := Lib.hid (HV0.out.up hbn)
  have HDA := Lib.hid (hd.mono hbn.size (fun _ hp => hbn.cell hp))
  clear hbn hd HV0
  clear HVA HDA
  go_enter Tryz.func25, Tryz.ntmps25
  go_upto_region 1 with (fail)
  obtain ⟨n0, hn0⟩ : ∃ n, n = w.heap.size := ⟨_, rfl⟩
  rw [← hn0] at HRA ⊢
  clear hn0
  generalize w.alloc (.cells #[.slice A0 L.nodes.length c0, .slice A1 L.secs.length c1, .slice A2 L.parts.length c2, .slice A3 L.points.length c3, .slice A4 L.routes.length c4, .int .i64 L.speed, .int .i64 L.mute, .int .i64 L.wait, .int .i64 L.cancel, .int .i64 L.stay] 33) = W0 at *
  clear HRA
  go_wp2_with fail
  go_ret2
  exact ⟨rfl, HBA.out⟩

set_option maxHeartbeats 4000000 in
theorem places8 (w : World) (v : Value) (L : Lay) (h : LayV w w.heap.size v L) : Calls Tryz.prog 25 #[v, .int .i64 8] w fun e w' => e = .returned (.tuple #[.int .i64 (L.nodes.length : Nat), .int .i64 (0 : Nat)]) ∧ Below w.heap.size w w' := by
  have HV0 := Lib.hid h
  obtain ⟨vN, vS, vP, vQ, vR, ps, rfl, hd⟩ := h
  obtain ⟨⟨A0, c0, rfl⟩, ⟨A1, c1, rfl⟩, ⟨A2, c2, rfl⟩, ⟨A3, c3, rfl⟩, ⟨A4, c4, rfl⟩⟩ := hd.slices
  have hbn := (Below.refl w.heap.size w).alloc (Nat.le_refl _) (.cells #[.slice A0 L.nodes.length c0, .slice A1 L.secs.length c1, .slice A2 L.parts.length c2, .slice A3 L.points.length c3, .slice A4 L.routes.length c4, .int .i64 L.speed, .int .i64 L.mute, .int .i64 L.wait, .int .i64 L.cancel, .int .i64 L.stay] 33)
  have HBA := Lib.hid hbn
  have HRA := Lib.hid (Row.new w 33 #[.slice A0 L.nodes.length c0, .slice A1 L.secs.length c1, .slice A2 L.parts.length c2, .slice A3 L.points.length c3, .slice A4 L.routes.length c4, .int .i64 L.speed, .int .i64 L.mute, .int .i64 L.wait, .int .i64 L.cancel, .int .i64 L.stay])
  have HVA := Lib.hid (HV0.out.up hbn)
  have HDA := Lib.hid (hd.mono hbn.size (fun _ hp => hbn.cell hp))
  clear hbn hd HV0
  clear HVA HDA
  go_enter Tryz.func25, Tryz.ntmps25
  go_upto_region 1 with (fail)
  obtain ⟨n0, hn0⟩ : ∃ n, n = w.heap.size := ⟨_, rfl⟩
  rw [← hn0] at HRA ⊢
  clear hn0
  generalize w.alloc (.cells #[.slice A0 L.nodes.length c0, .slice A1 L.secs.length c1, .slice A2 L.parts.length c2, .slice A3 L.points.length c3, .slice A4 L.routes.length c4, .int .i64 L.speed, .int .i64 L.mute, .int .i64 L.wait, .int .i64 L.cancel, .int .i64 L.stay] 33) = W0 at *
  have l0 : W0.cell? ⟨n0, 0, none⟩ = some (.slice A0 L.nodes.length c0) := by have h := HRA.out.cell 0; simpa using h
  clear HRA
  go_wp2_with fail
  go_ret2
  exact ⟨rfl, HBA.out⟩

set_option maxHeartbeats 4000000 in
theorem places9 (w : World) (v : Value) (L : Lay) (h : LayV w w.heap.size v L) : Calls Tryz.prog 25 #[v, .int .i64 9] w fun e w' => e = .returned (.tuple #[.int .i64 (1 : Nat), .int .i64 (0 : Nat)]) ∧ Below w.heap.size w w' := by
  have HV0 := Lib.hid h
  obtain ⟨vN, vS, vP, vQ, vR, ps, rfl, hd⟩ := h
  obtain ⟨⟨A0, c0, rfl⟩, ⟨A1, c1, rfl⟩, ⟨A2, c2, rfl⟩, ⟨A3, c3, rfl⟩, ⟨A4, c4, rfl⟩⟩ := hd.slices
  have hbn := (Below.refl w.heap.size w).alloc (Nat.le_refl _) (.cells #[.slice A0 L.nodes.length c0, .slice A1 L.secs.length c1, .slice A2 L.parts.length c2, .slice A3 L.points.length c3, .slice A4 L.routes.length c4, .int .i64 L.speed, .int .i64 L.mute, .int .i64 L.wait, .int .i64 L.cancel, .int .i64 L.stay] 33)
  have HBA := Lib.hid hbn
  have HRA := Lib.hid (Row.new w 33 #[.slice A0 L.nodes.length c0, .slice A1 L.secs.length c1, .slice A2 L.parts.length c2, .slice A3 L.points.length c3, .slice A4 L.routes.length c4, .int .i64 L.speed, .int .i64 L.mute, .int .i64 L.wait, .int .i64 L.cancel, .int .i64 L.stay])
  have HVA := Lib.hid (HV0.out.up hbn)
  have HDA := Lib.hid (hd.mono hbn.size (fun _ hp => hbn.cell hp))
  clear hbn hd HV0
  clear HVA HDA
  go_enter Tryz.func25, Tryz.ntmps25
  go_upto_region 1 with (fail)
  obtain ⟨n0, hn0⟩ : ∃ n, n = w.heap.size := ⟨_, rfl⟩
  rw [← hn0] at HRA ⊢
  clear hn0
  generalize w.alloc (.cells #[.slice A0 L.nodes.length c0, .slice A1 L.secs.length c1, .slice A2 L.parts.length c2, .slice A3 L.points.length c3, .slice A4 L.routes.length c4, .int .i64 L.speed, .int .i64 L.mute, .int .i64 L.wait, .int .i64 L.cancel, .int .i64 L.stay] 33) = W0 at *
  clear HRA
  go_wp2_with fail
  go_ret2
  exact ⟨rfl, HBA.out⟩

set_option maxHeartbeats 4000000 in
theorem places10 (w : World) (v : Value) (L : Lay) (h : LayV w w.heap.size v L) : Calls Tryz.prog 25 #[v, .int .i64 10] w fun e w' => e = .returned (.tuple #[.int .i64 (L.points.length : Nat), .int .i64 (0 : Nat)]) ∧ Below w.heap.size w w' := by
  have HV0 := Lib.hid h
  obtain ⟨vN, vS, vP, vQ, vR, ps, rfl, hd⟩ := h
  obtain ⟨⟨A0, c0, rfl⟩, ⟨A1, c1, rfl⟩, ⟨A2, c2, rfl⟩, ⟨A3, c3, rfl⟩, ⟨A4, c4, rfl⟩⟩ := hd.slices
  have hbn := (Below.refl w.heap.size w).alloc (Nat.le_refl _) (.cells #[.slice A0 L.nodes.length c0, .slice A1 L.secs.length c1, .slice A2 L.parts.length c2, .slice A3 L.points.length c3, .slice A4 L.routes.length c4, .int .i64 L.speed, .int .i64 L.mute, .int .i64 L.wait, .int .i64 L.cancel, .int .i64 L.stay] 33)
  have HBA := Lib.hid hbn
  have HRA := Lib.hid (Row.new w 33 #[.slice A0 L.nodes.length c0, .slice A1 L.secs.length c1, .slice A2 L.parts.length c2, .slice A3 L.points.length c3, .slice A4 L.routes.length c4, .int .i64 L.speed, .int .i64 L.mute, .int .i64 L.wait, .int .i64 L.cancel, .int .i64 L.stay])
  have HVA := Lib.hid (HV0.out.up hbn)
  have HDA := Lib.hid (hd.mono hbn.size (fun _ hp => hbn.cell hp))
  clear hbn hd HV0
  clear HVA HDA
  go_enter Tryz.func25, Tryz.ntmps25
  go_upto_region 1 with (fail)
  obtain ⟨n0, hn0⟩ : ∃ n, n = w.heap.size := ⟨_, rfl⟩
  rw [← hn0] at HRA ⊢
  clear hn0
  generalize w.alloc (.cells #[.slice A0 L.nodes.length c0, .slice A1 L.secs.length c1, .slice A2 L.parts.length c2, .slice A3 L.points.length c3, .slice A4 L.routes.length c4, .int .i64 L.speed, .int .i64 L.mute, .int .i64 L.wait, .int .i64 L.cancel, .int .i64 L.stay] 33) = W0 at *
  have l3 : W0.cell? ⟨n0, 3, none⟩ = some (.slice A3 L.points.length c3) := by have h := HRA.out.cell 3; simpa using h
  clear HRA
  go_wp2_with fail
  go_ret2
  exact ⟨rfl, HBA.out⟩

set_option maxHeartbeats 4000000 in
theorem places11 (w : World) (v : Value) (L : Lay) (h : LayV w w.heap.size v L) : Calls Tryz.prog 25 #[v, .int .i64 11] w fun e w' => e = .returned (.tuple #[.int .i64 (L.nodes.length : Nat), .int .i64 (0 : Nat)]) ∧ Below w.heap.size w w' := by
  have HV0 := Lib.hid h
  obtain ⟨vN, vS, vP, vQ, vR, ps, rfl, hd⟩ := h
  obtain ⟨⟨A0, c0, rfl⟩, ⟨A1, c1, rfl⟩, ⟨A2, c2, rfl⟩, ⟨A3, c3, rfl⟩, ⟨A4, c4, rfl⟩⟩ := hd.slices
  have hbn := (Below.refl w.heap.size w).alloc (Nat.le_refl _) (.cells #[.slice A0 L.nodes.length c0, .slice A1 L.secs.length c1, .slice A2 L.parts.length c2, .slice A3 L.points.length c3, .slice A4 L.routes.length c4, .int .i64 L.speed, .int .i64 L.mute, .int .i64 L.wait, .int .i64 L.cancel, .int .i64 L.stay] 33)
  have HBA := Lib.hid hbn
  have HRA := Lib.hid (Row.new w 33 #[.slice A0 L.nodes.length c0, .slice A1 L.secs.length c1, .slice A2 L.parts.length c2, .slice A3 L.points.length c3, .slice A4 L.routes.length c4, .int .i64 L.speed, .int .i64 L.mute, .int .i64 L.wait, .int .i64 L.cancel, .int .i64 L.stay])
  have HVA := Lib.hid (HV0.out.up hbn)
  have HDA := Lib.hid (hd.mono hbn.size (fun _ hp => hbn.cell hp))
  clear hbn hd HV0
  clear HVA HDA
  go_enter Tryz.func25, Tryz.ntmps25
  go_upto_region 1 with (fail)
  obtain ⟨n0, hn0⟩ : ∃ n, n = w.heap.size := ⟨_, rfl⟩
  rw [← hn0] at HRA ⊢
  clear hn0
  generalize w.alloc (.cells #[.slice A0 L.nodes.length c0, .slice A1 L.secs.length c1, .slice A2 L.parts.length c2, .slice A3 L.points.length c3, .slice A4 L.routes.length c4, .int .i64 L.speed, .int .i64 L.mute, .int .i64 L.wait, .int .i64 L.cancel, .int .i64 L.stay] 33) = W0 at *
  have l0 : W0.cell? ⟨n0, 0, none⟩ = some (.slice A0 L.nodes.length c0) := by have h := HRA.out.cell 0; simpa using h
  clear HRA
  go_wp2_with fail
  go_ret2
  exact ⟨rfl, HBA.out⟩

set_option maxHeartbeats 4000000 in
theorem places12 (w : World) (v : Value) (L : Lay) (h : LayV w w.heap.size v L) : Calls Tryz.prog 25 #[v, .int .i64 12] w fun e w' => e = .returned (.tuple #[.int .i64 (L.nodes.length : Nat), .int .i64 (0 : Nat)]) ∧ Below w.heap.size w w' := by
  have HV0 := Lib.hid h
  obtain ⟨vN, vS, vP, vQ, vR, ps, rfl, hd⟩ := h
  obtain ⟨⟨A0, c0, rfl⟩, ⟨A1, c1, rfl⟩, ⟨A2, c2, rfl⟩, ⟨A3, c3, rfl⟩, ⟨A4, c4, rfl⟩⟩ := hd.slices
  have hbn := (Below.refl w.heap.size w).alloc (Nat.le_refl _) (.cells #[.slice A0 L.nodes.length c0, .slice A1 L.secs.length c1, .slice A2 L.parts.length c2, .slice A3 L.points.length c3, .slice A4 L.routes.length c4, .int .i64 L.speed, .int .i64 L.mute, .int .i64 L.wait, .int .i64 L.cancel, .int .i64 L.stay] 33)
  have HBA := Lib.hid hbn
  have HRA := Lib.hid (Row.new w 33 #[.slice A0 L.nodes.length c0, .slice A1 L.secs.length c1, .slice A2 L.parts.length c2, .slice A3 L.points.length c3, .slice A4 L.routes.length c4, .int .i64 L.speed, .int .i64 L.mute, .int .i64 L.wait, .int .i64 L.cancel, .int .i64 L.stay])
  have HVA := Lib.hid (HV0.out.up hbn)
  have HDA := Lib.hid (hd.mono hbn.size (fun _ hp => hbn.cell hp))
  clear hbn hd HV0
  clear HVA HDA
  go_enter Tryz.func25, Tryz.ntmps25
  go_upto_region 1 with (fail)
  obtain ⟨n0, hn0⟩ : ∃ n, n = w.heap.size := ⟨_, rfl⟩
  rw [← hn0] at HRA ⊢
  clear hn0
  generalize w.alloc (.cells #[.slice A0 L.nodes.length c0, .slice A1 L.secs.length c1, .slice A2 L.parts.length c2, .slice A3 L.points.length c3, .slice A4 L.routes.length c4, .int .i64 L.speed, .int .i64 L.mute, .int .i64 L.wait, .int .i64 L.cancel, .int .i64 L.stay] 33) = W0 at *
  have l0 : W0.cell? ⟨n0, 0, none⟩ = some (.slice A0 L.nodes.length c0) := by have h := HRA.out.cell 0; simpa using h
  clear HRA
  go_wp2_with fail
  go_ret2
  exact ⟨rfl, HBA.out⟩

set_option maxHeartbeats 4000000 in
theorem places13 (w : World) (v : Value) (L : Lay) (h : LayV w w.heap.size v L) : Calls Tryz.prog 25 #[v, .int .i64 13] w fun e w' => e = .returned (.tuple #[.int .i64 (1 : Nat), .int .i64 (L.parts.length : Nat)]) ∧ Below w.heap.size w w' := by
  have HV0 := Lib.hid h
  obtain ⟨vN, vS, vP, vQ, vR, ps, rfl, hd⟩ := h
  obtain ⟨⟨A0, c0, rfl⟩, ⟨A1, c1, rfl⟩, ⟨A2, c2, rfl⟩, ⟨A3, c3, rfl⟩, ⟨A4, c4, rfl⟩⟩ := hd.slices
  have hbn := (Below.refl w.heap.size w).alloc (Nat.le_refl _) (.cells #[.slice A0 L.nodes.length c0, .slice A1 L.secs.length c1, .slice A2 L.parts.length c2, .slice A3 L.points.length c3, .slice A4 L.routes.length c4, .int .i64 L.speed, .int .i64 L.mute, .int .i64 L.wait, .int .i64 L.cancel, .int .i64 L.stay] 33)
  have HBA := Lib.hid hbn
  have HRA := Lib.hid (Row.new w 33 #[.slice A0 L.nodes.length c0, .slice A1 L.secs.length c1, .slice A2 L.parts.length c2, .slice A3 L.points.length c3, .slice A4 L.routes.length c4, .int .i64 L.speed, .int .i64 L.mute, .int .i64 L.wait, .int .i64 L.cancel, .int .i64 L.stay])
  have HVA := Lib.hid (HV0.out.up hbn)
  have HDA := Lib.hid (hd.mono hbn.size (fun _ hp => hbn.cell hp))
  clear hbn hd HV0
  clear HVA HDA
  go_enter Tryz.func25, Tryz.ntmps25
  go_upto_region 1 with (fail)
  obtain ⟨n0, hn0⟩ : ∃ n, n = w.heap.size := ⟨_, rfl⟩
  rw [← hn0] at HRA ⊢
  clear hn0
  generalize w.alloc (.cells #[.slice A0 L.nodes.length c0, .slice A1 L.secs.length c1, .slice A2 L.parts.length c2, .slice A3 L.points.length c3, .slice A4 L.routes.length c4, .int .i64 L.speed, .int .i64 L.mute, .int .i64 L.wait, .int .i64 L.cancel, .int .i64 L.stay] 33) = W0 at *
  have l2 : W0.cell? ⟨n0, 2, none⟩ = some (.slice A2 L.parts.length c2) := by have h := HRA.out.cell 2; simpa using h
  clear HRA
  go_wp2_with fail
  go_upto_region 14 with (fail)
  go_quiet (fail)
  go_wp2_with fail
  go_ret2
  exact ⟨rfl, below_drewN HBA.out _⟩

set_option maxHeartbeats 4000000 in
theorem places14 (w : World) (v : Value) (L : Lay) (h : LayV w w.heap.size v L) : Calls Tryz.prog 25 #[v, .int .i64 14] w fun e w' => e = .returned (.tuple #[.int .i64 (L.secs.length : Nat), .int .i64 (0 : Nat)]) ∧ Below w.heap.size w w' := by
  have HV0 := Lib.hid h
  obtain ⟨vN, vS, vP, vQ, vR, ps, rfl, hd⟩ := h
  obtain ⟨⟨A0, c0, rfl⟩, ⟨A1, c1, rfl⟩, ⟨A2, c2, rfl⟩, ⟨A3, c3, rfl⟩, ⟨A4, c4, rfl⟩⟩ := hd.slices
  have hbn := (Below.refl w.heap.size w).alloc (Nat.le_refl _) (.cells #[.slice A0 L.nodes.length c0, .slice A1 L.secs.length c1, .slice A2 L.parts.length c2, .slice A3 L.points.length c3, .slice A4 L.routes.length c4, .int .i64 L.speed, .int .i64 L.mute, .int .i64 L.wait, .int .i64 L.cancel, .int .i64 L.stay] 33)
  have HBA := Lib.hid hbn
  have HRA := Lib.hid (Row.new w 33 #[.slice A0 L.nodes.length c0, .slice A1 L.secs.length c1, .slice A2 L.parts.length c2, .slice A3 L.points.length c3, .slice A4 L.routes.length c4, .int .i64 L.speed, .int .i64 L.mute, .int .i64 L.wait, .int .i64 L.cancel, .int .i64 L.stay])
  have HVA := Lib.hid (HV0.out.up hbn)
  have HDA := Lib.hid (hd.mono hbn.size (fun _ hp => hbn.cell hp))
  clear hbn hd HV0
  clear HVA HDA
  go_enter Tryz.func25, Tryz.ntmps25
  go_upto_region 1 with (fail)
  obtain ⟨n0, hn0⟩ : ∃ n, n = w.heap.size := ⟨_, rfl⟩
  rw [← hn0] at HRA ⊢
  clear hn0
  generalize w.alloc (.cells #[.slice A0 L.nodes.length c0, .slice A1 L.secs.length c1, .slice A2 L.parts.length c2, .slice A3 L.points.length c3, .slice A4 L.routes.length c4, .int .i64 L.speed, .int .i64 L.mute, .int .i64 L.wait, .int .i64 L.cancel, .int .i64 L.stay] 33) = W0 at *
  have l1 : W0.cell? ⟨n0, 1, none⟩ = some (.slice A1 L.secs.length c1) := by have h := HRA.out.cell 1; simpa using h
  clear HRA
  go_wp2_with fail
  go_ret2
  exact ⟨rfl, HBA.out⟩

set_option maxHeartbeats 4000000 in
theorem places15 (w : World) (v : Value) (L : Lay) (h : LayV w w.heap.size v L) : Calls Tryz.prog 25 #[v, .int .i64 15] w fun e w' => e = .returned (.tuple #[.int .i64 (1 : Nat), .int .i64 (L.routes.length : Nat)]) ∧ Below w.heap.size w w' := by
  have HV0 := Lib.hid h
  obtain ⟨vN, vS, vP, vQ, vR, ps, rfl, hd⟩ := h
  obtain ⟨⟨A0, c0, rfl⟩, ⟨A1, c1, rfl⟩, ⟨A2, c2, rfl⟩, ⟨A3, c3, rfl⟩, ⟨A4, c4, rfl⟩⟩ := hd.slices
  have hbn := (Below.refl w.heap.size w).alloc (Nat.le_refl _) (.cells #[.slice A0 L.nodes.length c0, .slice A1 L.secs.length c1, .slice A2 L.parts.length c2, .slice A3 L.points.length c3, .slice A4 L.routes.length c4, .int .i64 L.speed, .int .i64 L.mute, .int .i64 L.wait, .int .i64 L.cancel, .int .i64 L.stay] 33)
  have HBA := Lib.hid hbn
  have HRA := Lib.hid (Row.new w 33 #[.slice A0 L.nodes.length c0, .slice A1 L.secs.length c1, .slice A2 L.parts.length c2, .slice A3 L.points.length c3, .slice A4 L.routes.length c4, .int .i64 L.speed, .int .i64 L.mute, .int .i64 L.wait, .int .i64 L.cancel, .int .i64 L.stay])
  have HVA := Lib.hid (HV0.out.up hbn)
  have HDA := Lib.hid (hd.mono hbn.size (fun _ hp => hbn.cell hp))
  clear hbn hd HV0
  clear HVA HDA
  go_enter Tryz.func25, Tryz.ntmps25
  go_upto_region 1 with (fail)
  obtain ⟨n0, hn0⟩ : ∃ n, n = w.heap.size := ⟨_, rfl⟩
  rw [← hn0] at HRA ⊢
  clear hn0
  generalize w.alloc (.cells #[.slice A0 L.nodes.length c0, .slice A1 L.secs.length c1, .slice A2 L.parts.length c2, .slice A3 L.points.length c3, .slice A4 L.routes.length c4, .int .i64 L.speed, .int .i64 L.mute, .int .i64 L.wait, .int .i64 L.cancel, .int .i64 L.stay] 33) = W0 at *
  have l4 : W0.cell? ⟨n0, 4, none⟩ = some (.slice A4 L.routes.length c4) := by have h := HRA.out.cell 4; simpa using h
  clear HRA
  go_wp2_with fail
  go_upto_region 16 with (fail)
  go_quiet (fail)
  go_wp2_with fail
  go_ret2
  exact ⟨rfl, below_drewN HBA.out _⟩


end Go.Proofs.YtagkgejdammflaaGreat
