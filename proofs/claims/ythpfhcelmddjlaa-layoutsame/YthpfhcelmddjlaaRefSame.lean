/- Contract: the document's: are two layouts alike? -/
import Derived.Test.YthpfhcelmddjlaaSame
namespace Go.Proofs.Ythpfhcelmddjlaa
open Go.RowKit Fl
set_option maxRecDepth 100000

/-- Not too many of anything. -/
structure Few (L : Lay) : Prop where
  nodes : L.nodes.length ≤ 1000
  secs : L.secs.length ≤ 1000
  parts : L.parts.length ≤ 1000
  points : L.points.length ≤ 1000
  routes : L.routes.length ≤ 1000
  part : ∀ r ∈ L.parts, r.length ≤ 1000
  route : ∀ r ∈ L.routes, r.length ≤ 1000

def Pre (a b : Lay) : Prop := a.nodes.length = b.nodes.length ∧ a.secs.length = b.secs.length ∧ a.points.length = b.points.length ∧ a.parts = b.parts ∧ a.routes = b.routes
instance (a b : Lay) : Decidable (Pre a b) := by unfold Pre; exact inferInstance


set_option maxHeartbeats 16000000 in
theorem refSame_any (w : World) (va vb : Value) (a b : Lay) (ha : LayV w w.heap.size va a) (hb : LayV w w.heap.size vb b) (hma : Few a) : Calls Try.prog 17 #[va, vb] w (RetL (decide (Alike a b)) w) := by
  obtain ⟨vN, vS, vP, vQ, vR, ps, rfl, hda⟩ := ha
  obtain ⟨uN, uS, uP, uQ, uR, qs, rfl, hdb⟩ := hb
  obtain ⟨⟨A0, c0, rfl⟩, ⟨A1, c1, rfl⟩, ⟨A2, c2, rfl⟩, ⟨A3, c3, rfl⟩, ⟨A4, c4, rfl⟩⟩ := hda.slices
  obtain ⟨⟨B0, d0, rfl⟩, ⟨B1, d1, rfl⟩, ⟨B2, d2, rfl⟩, ⟨B3, d3, rfl⟩, ⟨B4, d4, rfl⟩⟩ := hdb.slices
  obtain ⟨ka0, hka0⟩ : ∃ k, a.nodes.length = k := ⟨_, rfl⟩
  obtain ⟨kb0, hkb0⟩ : ∃ k, b.nodes.length = k := ⟨_, rfl⟩
  obtain ⟨ka1, hka1⟩ : ∃ k, a.secs.length = k := ⟨_, rfl⟩
  obtain ⟨kb1, hkb1⟩ : ∃ k, b.secs.length = k := ⟨_, rfl⟩
  obtain ⟨ka2, hka2⟩ : ∃ k, a.parts.length = k := ⟨_, rfl⟩
  obtain ⟨kb2, hkb2⟩ : ∃ k, b.parts.length = k := ⟨_, rfl⟩
  obtain ⟨ka3, hka3⟩ : ∃ k, a.points.length = k := ⟨_, rfl⟩
  obtain ⟨kb3, hkb3⟩ : ∃ k, b.points.length = k := ⟨_, rfl⟩
  obtain ⟨ka4, hka4⟩ : ∃ k, a.routes.length = k := ⟨_, rfl⟩
  obtain ⟨kb4, hkb4⟩ : ∃ k, b.routes.length = k := ⟨_, rfl⟩
  have HKA : Hid (a.nodes.length = ka0 ∧ a.secs.length = ka1 ∧ a.parts.length = ka2 ∧ a.points.length = ka3 ∧ a.routes.length = ka4) := ⟨hka0, hka1, hka2, hka3, hka4⟩
  have HKB : Hid (b.nodes.length = kb0 ∧ b.secs.length = kb1 ∧ b.parts.length = kb2 ∧ b.points.length = kb3 ∧ b.routes.length = kb4) := ⟨hkb0, hkb1, hkb2, hkb3, hkb4⟩
  rw [hka0, hka1, hka2, hka3, hka4] at hda ⊢
  rw [hkb0, hkb1, hkb2, hkb3, hkb4] at hdb ⊢
  clear hka0 hkb0 hka1 hkb1 hka2 hkb2 hka3 hkb3 hka4 hkb4
  have HM := Lib.hid hma
  have hb2 := below2 w (.cells #[.slice A0 ka0 c0, .slice A1 ka1 c1, .slice A2 ka2 c2, .slice A3 ka3 c3, .slice A4 ka4 c4, .int .i64 a.speed, .int .i64 a.mute, .int .i64 a.wait, .int .i64 a.cancel, .int .i64 a.stay] 33) (.cells #[.slice B0 kb0 d0, .slice B1 kb1 d1, .slice B2 kb2 d2, .slice B3 kb3 d3, .slice B4 kb4 d4, .int .i64 b.speed, .int .i64 b.mute, .int .i64 b.wait, .int .i64 b.cancel, .int .i64 b.stay] 33)
  have HT := Lib.hid (two_of w #[.slice A0 ka0 c0, .slice A1 ka1 c1, .slice A2 ka2 c2, .slice A3 ka3 c3, .slice A4 ka4 c4, .int .i64 a.speed, .int .i64 a.mute, .int .i64 a.wait, .int .i64 a.cancel, .int .i64 a.stay] #[.slice B0 kb0 d0, .slice B1 kb1 d1, .slice B2 kb2 d2, .slice B3 kb3 d3, .slice B4 kb4 d4, .int .i64 b.speed, .int .i64 b.mute, .int .i64 b.wait, .int .i64 b.cancel, .int .i64 b.stay])
  have HDA := Lib.hid (hda.mono (w' := (w.alloc (.cells #[.slice A0 ka0 c0, .slice A1 ka1 c1, .slice A2 ka2 c2, .slice A3 ka3 c3, .slice A4 ka4 c4, .int .i64 a.speed, .int .i64 a.mute, .int .i64 a.wait, .int .i64 a.cancel, .int .i64 a.stay] 33)).alloc (.cells #[.slice B0 kb0 d0, .slice B1 kb1 d1, .slice B2 kb2 d2, .slice B3 kb3 d3, .slice B4 kb4 d4, .int .i64 b.speed, .int .i64 b.mute, .int .i64 b.wait, .int .i64 b.cancel, .int .i64 b.stay] 33)) (Nat.le_refl _) fun p hp => hb2.cell hp)
  have HDB := Lib.hid (hdb.mono (w' := (w.alloc (.cells #[.slice A0 ka0 c0, .slice A1 ka1 c1, .slice A2 ka2 c2, .slice A3 ka3 c3, .slice A4 ka4 c4, .int .i64 a.speed, .int .i64 a.mute, .int .i64 a.wait, .int .i64 a.cancel, .int .i64 a.stay] 33)).alloc (.cells #[.slice B0 kb0 d0, .slice B1 kb1 d1, .slice B2 kb2 d2, .slice B3 kb3 d3, .slice B4 kb4 d4, .int .i64 b.speed, .int .i64 b.mute, .int .i64 b.wait, .int .i64 b.cancel, .int .i64 b.stay] 33)) (Nat.le_refl _) fun p hp => hb2.cell hp)
  have HB := Lib.hid hb2
  clear hda hdb hb2 hma
  go_enter Try.func17, Try.ntmps17
  go_upto_region 1 with (fail)
  obtain ⟨n0, hn0⟩ : ∃ n, n = w.heap.size := ⟨_, rfl⟩
  obtain ⟨n1, hn1⟩ : ∃ n, n = w.heap.size + 1 := ⟨_, rfl⟩
  rw [← hn1, ← hn0]
  rw [← hn1, ← hn0] at HT
  rw [← hn0] at HDA HDB HB
  have HN0 := Lib.hid hn0
  clear hn0 hn1
  generalize (w.alloc (.cells #[.slice A0 ka0 c0, .slice A1 ka1 c1, .slice A2 ka2 c2, .slice A3 ka3 c3, .slice A4 ka4 c4, .int .i64 a.speed, .int .i64 a.mute, .int .i64 a.wait, .int .i64 a.cancel, .int .i64 a.stay] 33)).alloc (.cells #[.slice B0 kb0 d0, .slice B1 kb1 d1, .slice B2 kb2 d2, .slice B3 kb3 d3, .slice B4 kb4 d4, .int .i64 b.speed, .int .i64 b.mute, .int .i64 b.wait, .int .i64 b.cancel, .int .i64 b.stay] 33) = W0 at *
  go_cut [48] (fun v wx => v = .bool (!decide (Pre a b)) ∧ ∃ m, wx = W0.drewN m)
  case first =>
    have fa0 := HT.out.a.cell 0; have fb0 := HT.out.b.cell 0
    have fa1 := HT.out.a.cell 1; have fb1 := HT.out.b.cell 1
    have fa2 := HT.out.a.cell 2; have fb2 := HT.out.b.cell 2
    have fa3 := HT.out.a.cell 3; have fb3 := HT.out.b.cell 3
    have fa4 := HT.out.a.cell 4; have fb4 := HT.out.b.cell 4
    simp only [List.getElem?_toArray, List.getElem?_cons_zero, List.getElem?_cons_succ] at fa0 fb0 fa1 fb1 fa2 fb2 fa3 fb3 fa4 fb4
    by_cases l0 : ka0 = kb0
    rotate_left
    · have HNo : Hid ((!decide (Pre a b)) = true) := by
        have : ¬ Pre a b := fun h => l0 (by have := h.1; rw [HKA.out.1, HKB.out.1] at this; exact this)
        show _ = _
        rw [decide_eq_false this]; rfl
      have hd : ((ka0 : Int) == (kb0 : Int)) = false := by simp; omega
      have hz : ¬ ((ka0 : Int) = (kb0 : Int)) := by omega
      go_wp2_with fail
      go_meet
      case rel => exact ⟨by rw [HNo.out], 0, rfl⟩
    have HL0 := Lib.hid l0
    have g0 : ((ka0 : Int) == (kb0 : Int)) = true := by simp; omega
    clear l0
    by_cases l1 : ka1 = kb1
    rotate_left
    · have HNo : Hid ((!decide (Pre a b)) = true) := by
        have : ¬ Pre a b := fun h => l1 (by have := h.2.1; rw [HKA.out.2.1, HKB.out.2.1] at this; exact this)
        show _ = _
        rw [decide_eq_false this]; rfl
      have hd : ((ka1 : Int) == (kb1 : Int)) = false := by simp; omega
      have hz : ¬ ((ka1 : Int) = (kb1 : Int)) := by omega
      go_wp2_with fail
      all_goals try (exfalso; have q0 := HL0.out; omega)
      go_meet
      case rel => exact ⟨by rw [HNo.out], 0, rfl⟩
    have HL1 := Lib.hid l1
    have g1 : ((ka1 : Int) == (kb1 : Int)) = true := by simp; omega
    clear l1
    by_cases l3 : ka3 = kb3
    rotate_left
    · have HNo : Hid ((!decide (Pre a b)) = true) := by
        have : ¬ Pre a b := fun h => l3 (by have := h.2.2.1; rw [HKA.out.2.2.2.1, HKB.out.2.2.2.1] at this; exact this)
        show _ = _
        rw [decide_eq_false this]; rfl
      have hd : ((ka3 : Int) == (kb3 : Int)) = false := by simp; omega
      have hz : ¬ ((ka3 : Int) = (kb3 : Int)) := by omega
      go_wp2_with fail
      all_goals try (exfalso; have q0 := HL0.out; have q1 := HL1.out; omega)
      go_meet
      case rel => exact ⟨by rw [HNo.out], 0, rfl⟩
    have HL3 := Lib.hid l3
    have g3 : ((ka3 : Int) == (kb3 : Int)) = true := by simp; omega
    clear l3
    have HL : Hid (ka0 = kb0 ∧ ka1 = kb1 ∧ ka3 = kb3) := ⟨HL0.out, HL1.out, HL3.out⟩
    go_wp2_with fail
    all_goals try (exfalso; have q0 := HL.out; omega)
    refine (lists_any _ n0 _ _ a.parts b.parts HDA.out.p HDB.out.p (fun r hr => Nat.le_trans (HM.out.part r hr) (by omega)) (Nat.le_trans HM.out.parts (by omega))).mono ?_
    rintro e w1 ⟨rfl, m1, rfl⟩
    have HT' := Lib.hid (HT.out.drewN m1); have HDA' := Lib.hid (HDA.out.drewN m1); have HDB' := Lib.hid (HDB.out.drewN m1)
    obtain ⟨W1, hW1⟩ : ∃ x, x = W0.drewN m1 := ⟨_, rfl⟩
    rw [← hW1] at HT' HDA' HDB' ⊢
    have HW1 := Lib.hid hW1; clear hW1
    clear HT HDA HDB fa0 fb0 fa1 fb1 fa2 fb2 fa3 fb3 fa4 fb4
    have HT := HT'; have HDA := HDA'; have HDB := HDB'
    clear HT' HDA' HDB'
    by_cases hpp : a.parts = b.parts
    rotate_left
    · have HNo : Hid ((!decide (Pre a b)) = true) := by
        have : ¬ Pre a b := fun h => hpp h.2.2.2.1
        show _ = _
        rw [decide_eq_false this]; rfl
      rw [decide_eq_false hpp]
      clear hpp
      go_wp2_with fail
      all_goals try (exfalso; have q0 := HL.out; omega)
      go_meet
      case rel => exact ⟨by rw [HNo.out], m1, HW1.out⟩
    rw [decide_eq_true hpp]
    have HPP := Lib.hid hpp
    clear hpp
    have ha4 := HT.out.a.cell 4; have hb4 := HT.out.b.cell 4
    simp only [List.getElem?_toArray, List.getElem?_cons_zero, List.getElem?_cons_succ] at ha4 hb4
    go_wp2_with fail
    all_goals try (exfalso; have q0 := HL.out; omega)
    refine (lists_any _ n0 _ _ a.routes b.routes HDA.out.r HDB.out.r (fun r hr => Nat.le_trans (HM.out.route r hr) (by omega)) (Nat.le_trans HM.out.routes (by omega))).mono ?_
    rintro e w1 ⟨rfl, m2, rfl⟩
    by_cases hq : a.routes = b.routes
    rotate_left
    · have HNo : Hid ((!decide (Pre a b)) = true) := by
        have : ¬ Pre a b := fun h => hq h.2.2.2.2
        show _ = _
        rw [decide_eq_false this]; rfl
      rw [decide_eq_false hq]
      clear hq
      go_wp2_with fail
      all_goals try (exfalso; have q0 := HL.out; omega)
      go_meet
      case rel => exact ⟨by rw [HNo.out], m1 + m2, by rw [HW1.out, World.drewN_drewN]⟩
    have HYes : Hid ((!decide (Pre a b)) = false) := by
      have : Pre a b := ⟨by rw [HKA.out.1, HKB.out.1]; exact HL.out.1, by rw [HKA.out.2.1, HKB.out.2.1]; exact HL.out.2.1, by rw [HKA.out.2.2.2.1, HKB.out.2.2.2.1]; exact HL.out.2.2, HPP.out, hq⟩
      show _ = _
      rw [decide_eq_true this]; rfl
    rw [decide_eq_true hq]
    clear hq
    go_wp2_with fail
    all_goals try (exfalso; have q0 := HL.out; omega)
    go_meet
    case rel => exact ⟨by rw [HYes.out], m1 + m2, by rw [HW1.out, World.drewN_drewN]⟩
  case rest =>
  obtain ⟨rfl, mc, hwc⟩ := hcut
  have HWC := Lib.hid hwc
  clear hwc
  by_cases hpre : Pre a b
  rotate_left
  · have HNo : Hid (¬ Alike a b) := fun h => hpre ⟨by rw [h.1], by rw [h.2.1], by rw [h.2.2.2.1], h.2.2.1, h.2.2.2.2.1⟩
    rw [decide_eq_false hpre]
    clear hpre
    go_wp2_with fail
    go_ret
    exact ⟨ret_bool (by rw [decide_eq_false HNo.out]), by rw [← HN0.out, HWC.out]; exact below_drewN HB.out mc⟩
  rw [decide_eq_true hpre]
  have HPre := Lib.hid hpre
  clear hpre
  have hk0 : Hid (ka0 ≤ 1000 ∧ ka1 ≤ 1000 ∧ ka3 ≤ 1000) := by have h1 := HM.out; have h2 := HKA.out; have a1 := h1.nodes; have a2 := h1.secs; have a3 := h1.points; refine ⟨?_, ?_, ?_⟩ <;> omega
  have kk0 := hk0.out.1; have kk1 := hk0.out.2.1; have kk3 := hk0.out.2.2
  go_wp2_with fail
  rw [HWC.out]
  go_loopw [5] (fun t wr => ∃ i : Nat, i ≤ ka0 ∧ t = .int .i64 i ∧ Hid (a.nodes.take i = b.nodes.take i) ∧ ∃ m, wr = W0.drewN m) (fun t _ => ka0 - (intOf t).toNat)
  case atStart => exact ⟨0, Nat.zero_le _, rfl, rfl, _, rfl⟩
  case round =>
    obtain ⟨i, hi, rfl, HE, m, hwr⟩ := hrel
    have HTm : Hid (Two wr n0 n1 #[.slice A0 ka0 c0, .slice A1 ka1 c1, .slice A2 ka2 c2, .slice A3 ka3 c3, .slice A4 ka4 c4, .int .i64 a.speed, .int .i64 a.mute, .int .i64 a.wait, .int .i64 a.cancel, .int .i64 a.stay] #[.slice B0 kb0 d0, .slice B1 kb1 d1, .slice B2 kb2 d2, .slice B3 kb3 d3, .slice B4 kb4 d4, .int .i64 b.speed, .int .i64 b.mute, .int .i64 b.wait, .int .i64 b.cancel, .int .i64 b.stay]) := by rw [hwr]; exact HT.out.drewN m
    have HDAm : Hid (LayData wr n0 (.slice A0 ka0 c0) (.slice A1 ka1 c1) (.slice A2 ka2 c2) (.slice A3 ka3 c3) (.slice A4 ka4 c4) ps a) := by rw [hwr]; exact HDA.out.drewN m
    have HDBm : Hid (LayData wr n0 (.slice B0 kb0 d0) (.slice B1 kb1 d1) (.slice B2 kb2 d2) (.slice B3 kb3 d3) (.slice B4 kb4 d4) qs b) := by rw [hwr]; exact HDB.out.drewN m
    have HWR := Lib.hid hwr
    clear hwr
    have fa0 := HTm.out.a.cell 0; have fb0 := HTm.out.b.cell 0
    simp only [List.getElem?_toArray, List.getElem?_cons_zero] at fa0 fb0
    by_cases hlt : i < ka0
    · have hix : i < a.nodes.length := by have := HKA.out; omega
      have hiy : i < b.nodes.length := by have h1 := HKA.out; have h2 := HKB.out; have h3 := HPre.out; unfold Pre at h3; omega
      have HT' : Hid (a.nodes[i] = b.nodes[i] → a.nodes.take (i + 1) = b.nodes.take (i + 1)) := take_snoc_eq HE.out hix hiy
      have HD' : Hid (a.nodes[i] ≠ b.nodes[i] → ¬ Alike a b) := fun h1 h2 => h1 (by have := h2.1; simp only [this])
      have hkb : i < kb0 := by have h2 := HKB.out; omega
      have hpx : i < ps.length := by have := HDAm.out.f.1; omega
      have hpy : i < qs.length := by have := HDBm.out.f.1; omega
      obtain ⟨p1, o1, hA0, _, h1⟩ := HDAm.out.n.at (nvals_get ps i hpx)
      obtain ⟨p2, o2, hB0, _, h2⟩ := HDBm.out.n.at (nvals_get qs i hpy)
      subst hA0; subst hB0
      have fa := HDAm.out.f.2 i hpx hix
      have fb := HDBm.out.f.2 i hpy hiy
      generalize ps[i].1 = x1 at *
      generalize ps[i].2 = x2 at *
      generalize qs[i].1 = y1 at *
      generalize qs[i].2 = y2 at *
      generalize a.nodes[i] = x at *
      generalize b.nodes[i] = y at *
      by_cases hxy : x = y
      · have HT2 := Lib.hid (HT'.out hxy)
        subst hxy
        have c1 := fl_eq_true fa.1 fb.1 rfl
        have c2 := fl_eq_true fa.2 fb.2 rfl
        clear HT' HD' fa fb
        go_wp2
        go_quiet (fail)
        go_wp2
        go_roundw
        case rel => exact ⟨i + 1, by omega, by go_num, HT2, m + nq, by rw [HWR.out, World.drewN_drewN]⟩
        case measure => simp [intOf]; omega
      · have HD2 := Lib.hid (HD'.out hxy)
        obtain ⟨xa, xb⟩ := x
        obtain ⟨ya, yb⟩ := y
        simp only at fa fb
        by_cases h1' : xa = ya
        · have h2' : xb ≠ yb := by rintro rfl; exact hxy (by rw [h1'])
          have c1 := fl_eq_true fa.1 fb.1 h1'
          have c2 := fl_eq_false fa.2 fb.2 h2'
          clear hxy HT' HD' fa fb h1' h2'
          go_wp2
          go_quiet (fail)
          go_wp2
          go_ret
          exact ⟨ret_bool (by rw [decide_eq_false HD2.out]), by rw [← HN0.out]; exact below_drewN (by rw [HWR.out]; exact below_drewN HB.out m) nq⟩
        · have c1 := fl_eq_false fa.1 fb.1 h1'
          clear hxy HT' HD' fa fb h1'
          go_wp2
          go_quiet (fail)
          go_wp2
          go_ret
          exact ⟨ret_bool (by rw [decide_eq_false HD2.out]), by rw [← HN0.out]; exact below_drewN (by rw [HWR.out]; exact below_drewN HB.out m) nq⟩
    · have HF0 : Hid (a.nodes = b.nodes) := by
        have := HE.out
        rw [List.take_of_length_le (by have := HKA.out; omega), List.take_of_length_le (by have h1 := HKA.out; have h2 := HKB.out; have h3 := HPre.out; unfold Pre at h3; omega)] at this
        exact this
      go_wp2
      rw [HWR.out]
      clear HE HTm HDAm HDBm HWR hlt hi
      clear fa0 fb0
      go_loopw [6] (fun t wr => ∃ i : Nat, i ≤ ka1 ∧ t = .int .i64 i ∧ Hid (a.secs.take i = b.secs.take i) ∧ ∃ m, wr = W0.drewN m) (fun t _ => ka1 - (intOf t).toNat)
      case atStart => exact ⟨0, Nat.zero_le _, rfl, rfl, _, rfl⟩
      case round =>
        obtain ⟨i, hi, rfl, HE, m, hwr⟩ := hrel
        have HTm : Hid (Two wr n0 n1 #[.slice A0 ka0 c0, .slice A1 ka1 c1, .slice A2 ka2 c2, .slice A3 ka3 c3, .slice A4 ka4 c4, .int .i64 a.speed, .int .i64 a.mute, .int .i64 a.wait, .int .i64 a.cancel, .int .i64 a.stay] #[.slice B0 kb0 d0, .slice B1 kb1 d1, .slice B2 kb2 d2, .slice B3 kb3 d3, .slice B4 kb4 d4, .int .i64 b.speed, .int .i64 b.mute, .int .i64 b.wait, .int .i64 b.cancel, .int .i64 b.stay]) := by rw [hwr]; exact HT.out.drewN m
        have HDAm : Hid (LayData wr n0 (.slice A0 ka0 c0) (.slice A1 ka1 c1) (.slice A2 ka2 c2) (.slice A3 ka3 c3) (.slice A4 ka4 c4) ps a) := by rw [hwr]; exact HDA.out.drewN m
        have HDBm : Hid (LayData wr n0 (.slice B0 kb0 d0) (.slice B1 kb1 d1) (.slice B2 kb2 d2) (.slice B3 kb3 d3) (.slice B4 kb4 d4) qs b) := by rw [hwr]; exact HDB.out.drewN m
        have HWR := Lib.hid hwr
        clear hwr
        have fa1 := HTm.out.a.cell 1; have fb1 := HTm.out.b.cell 1
        simp only [List.getElem?_toArray, List.getElem?_cons_zero, List.getElem?_cons_succ] at fa1 fb1
        by_cases hlt : i < ka1
        · have hix : i < a.secs.length := by have := HKA.out; omega
          have hiy : i < b.secs.length := by have h1 := HKA.out; have h2 := HKB.out; have h3 := HPre.out; unfold Pre at h3; omega
          have HT' : Hid (a.secs[i] = b.secs[i] → a.secs.take (i + 1) = b.secs.take (i + 1)) := take_snoc_eq HE.out hix hiy
          have HD' : Hid (a.secs[i] ≠ b.secs[i] → ¬ Alike a b) := fun h1 h2 => h1 (by have := h2.2.1; simp only [this])
          have hkb : i < kb1 := by have h2 := HKB.out; omega
          obtain ⟨pp, oo, hA0, _, p0, p1, p2⟩ := HDAm.out.s.at i hix
          obtain ⟨pp', oo', hB0, _, q0, q1, q2⟩ := HDBm.out.s.at i hiy
          subst hA0; subst hB0
          generalize a.secs[i] = x at *
          generalize b.secs[i] = y at *
          obtain ⟨x0, x1, x2⟩ := x
          obtain ⟨y0, y1, y2⟩ := y
          simp only at p0 q0 p1 q1 p2 q2
          by_cases e0 : x0 = y0
          rotate_left
          · have HD2 : Hid (¬ Alike a b) := HD'.out (by intro h; injection h; simp_all)
            have hd : (x0 == y0) = false := by simpa using e0
            clear HT' HD' e0
            go_wp2
            go_quiet (fail)
            go_wp2
            go_ret
            exact ⟨ret_bool (by rw [decide_eq_false HD2.out]), by rw [← HN0.out]; exact below_drewN (by rw [HWR.out]; exact below_drewN HB.out m) nq⟩
          by_cases e1 : x1 = y1
          rotate_left
          · have HD2 : Hid (¬ Alike a b) := HD'.out (by intro h; injection h; simp_all)
            have hd : (x1 == y1) = false := by simpa using e1
            clear HT' HD' e1
            go_wp2
            go_quiet (fail)
            go_wp2
            go_ret
            exact ⟨ret_bool (by rw [decide_eq_false HD2.out]), by rw [← HN0.out]; exact below_drewN (by rw [HWR.out]; exact below_drewN HB.out m) nq⟩
          by_cases e2 : x2 = y2
          rotate_left
          · have HD2 : Hid (¬ Alike a b) := HD'.out (by intro h; injection h; simp_all)
            have hd : (x2 == y2) = false := by simpa using e2
            clear HT' HD' e2
            go_wp2
            go_quiet (fail)
            go_wp2
            go_ret
            exact ⟨ret_bool (by rw [decide_eq_false HD2.out]), by rw [← HN0.out]; exact below_drewN (by rw [HWR.out]; exact below_drewN HB.out m) nq⟩
          have HT2 : Hid (a.secs.take (i + 1) = b.secs.take (i + 1)) := HT'.out (by rw [e0, e1, e2])
          clear HT' HD'
          subst e0 e1 e2
          go_wp2
          go_quiet (fail)
          go_wp2
          go_roundw
          case rel => exact ⟨i + 1, by omega, by go_num, HT2, m + nq, by rw [HWR.out, World.drewN_drewN]⟩
          case measure => simp [intOf]; omega
        · have HF1 : Hid (a.secs = b.secs) := by
            have := HE.out
            rw [List.take_of_length_le (by have := HKA.out; omega), List.take_of_length_le (by have h1 := HKA.out; have h2 := HKB.out; have h3 := HPre.out; unfold Pre at h3; omega)] at this
            exact this
          go_wp2
          rw [HWR.out]
          clear HE HTm HDAm HDBm HWR hlt hi
          clear fa1 fb1
          go_loopw [7] (fun t wr => ∃ i : Nat, i ≤ ka3 ∧ t = .int .i64 i ∧ Hid (a.points.take i = b.points.take i) ∧ ∃ m, wr = W0.drewN m) (fun t _ => ka3 - (intOf t).toNat)
          case atStart => exact ⟨0, Nat.zero_le _, rfl, rfl, _, rfl⟩
          case round =>
            obtain ⟨i, hi, rfl, HE, m, hwr⟩ := hrel
            have HTm : Hid (Two wr n0 n1 #[.slice A0 ka0 c0, .slice A1 ka1 c1, .slice A2 ka2 c2, .slice A3 ka3 c3, .slice A4 ka4 c4, .int .i64 a.speed, .int .i64 a.mute, .int .i64 a.wait, .int .i64 a.cancel, .int .i64 a.stay] #[.slice B0 kb0 d0, .slice B1 kb1 d1, .slice B2 kb2 d2, .slice B3 kb3 d3, .slice B4 kb4 d4, .int .i64 b.speed, .int .i64 b.mute, .int .i64 b.wait, .int .i64 b.cancel, .int .i64 b.stay]) := by rw [hwr]; exact HT.out.drewN m
            have HDAm : Hid (LayData wr n0 (.slice A0 ka0 c0) (.slice A1 ka1 c1) (.slice A2 ka2 c2) (.slice A3 ka3 c3) (.slice A4 ka4 c4) ps a) := by rw [hwr]; exact HDA.out.drewN m
            have HDBm : Hid (LayData wr n0 (.slice B0 kb0 d0) (.slice B1 kb1 d1) (.slice B2 kb2 d2) (.slice B3 kb3 d3) (.slice B4 kb4 d4) qs b) := by rw [hwr]; exact HDB.out.drewN m
            have HWR := Lib.hid hwr
            clear hwr
            have fa3 := HTm.out.a.cell 3; have fb3 := HTm.out.b.cell 3
            simp only [List.getElem?_toArray, List.getElem?_cons_zero, List.getElem?_cons_succ] at fa3 fb3
            by_cases hlt : i < ka3
            · have hix : i < a.points.length := by have := HKA.out; omega
              have hiy : i < b.points.length := by have h1 := HKA.out; have h2 := HKB.out; have h3 := HPre.out; unfold Pre at h3; omega
              have HT' : Hid (a.points[i] = b.points[i] → a.points.take (i + 1) = b.points.take (i + 1)) := take_snoc_eq HE.out hix hiy
              have HD' : Hid (a.points[i] ≠ b.points[i] → ¬ Alike a b) := fun h1 h2 => h1 (by have := h2.2.2.2.1; simp only [this])
              have hkb : i < kb3 := by have h2 := HKB.out; omega
              obtain ⟨pp, oo, hA0, _, p0, p1, p2, p3⟩ := HDAm.out.q.at i hix
              obtain ⟨pp', oo', hB0, _, q0, q1, q2, q3⟩ := HDBm.out.q.at i hiy
              subst hA0; subst hB0
              generalize a.points[i] = x at *
              generalize b.points[i] = y at *
              obtain ⟨x0, x1, x2, x3⟩ := x
              obtain ⟨y0, y1, y2, y3⟩ := y
              simp only at p0 q0 p1 q1 p2 q2 p3 q3
              by_cases e0 : x0 = y0
              rotate_left
              · have HD2 : Hid (¬ Alike a b) := HD'.out (by intro h; injection h; simp_all)
                have hd : (x0 == y0) = false := by simpa using e0
                clear HT' HD' e0
                go_wp2
                go_quiet (fail)
                go_wp2
                go_ret
                exact ⟨ret_bool (by rw [decide_eq_false HD2.out]), by rw [← HN0.out]; exact below_drewN (by rw [HWR.out]; exact below_drewN HB.out m) nq⟩
              by_cases e1 : x1 = y1
              rotate_left
              · have HD2 : Hid (¬ Alike a b) := HD'.out (by intro h; injection h; simp_all)
                have hd : (x1 == y1) = false := by simpa using e1
                clear HT' HD' e1
                go_wp2
                go_quiet (fail)
                go_wp2
                go_ret
                exact ⟨ret_bool (by rw [decide_eq_false HD2.out]), by rw [← HN0.out]; exact below_drewN (by rw [HWR.out]; exact below_drewN HB.out m) nq⟩
              by_cases e2 : x2 = y2
              rotate_left
              · have HD2 : Hid (¬ Alike a b) := HD'.out (by intro h; injection h; simp_all)
                have hd : (x2 == y2) = false := by simpa using e2
                clear HT' HD' e2
                go_wp2
                go_quiet (fail)
                go_wp2
                go_ret
                exact ⟨ret_bool (by rw [decide_eq_false HD2.out]), by rw [← HN0.out]; exact below_drewN (by rw [HWR.out]; exact below_drewN HB.out m) nq⟩
              by_cases e3 : x3 = y3
              rotate_left
              · have HD2 : Hid (¬ Alike a b) := HD'.out (by intro h; injection h; simp_all)
                have hd : (x3 == y3) = false := by simpa using e3
                clear HT' HD' e3
                go_wp2
                go_quiet (fail)
                go_wp2
                go_ret
                exact ⟨ret_bool (by rw [decide_eq_false HD2.out]), by rw [← HN0.out]; exact below_drewN (by rw [HWR.out]; exact below_drewN HB.out m) nq⟩
              have HT2 : Hid (a.points.take (i + 1) = b.points.take (i + 1)) := HT'.out (by rw [e0, e1, e2, e3])
              clear HT' HD'
              subst e0 e1 e2 e3
              go_wp2
              go_quiet (fail)
              go_wp2
              go_roundw
              case rel => exact ⟨i + 1, by omega, by go_num, HT2, m + nq, by rw [HWR.out, World.drewN_drewN]⟩
              case measure => simp [intOf]; omega
            · have HF3 : Hid (a.points = b.points) := by
                have := HE.out
                rw [List.take_of_length_le (by have := HKA.out; omega), List.take_of_length_le (by have h1 := HKA.out; have h2 := HKB.out; have h3 := HPre.out; unfold Pre at h3; omega)] at this
                exact this
              have ta5 := HTm.out.a.cell 5; have tb5 := HTm.out.b.cell 5
              have ta6 := HTm.out.a.cell 6; have tb6 := HTm.out.b.cell 6
              have ta7 := HTm.out.a.cell 7; have tb7 := HTm.out.b.cell 7
              have ta8 := HTm.out.a.cell 8; have tb8 := HTm.out.b.cell 8
              have ta9 := HTm.out.a.cell 9; have tb9 := HTm.out.b.cell 9
              simp only [List.getElem?_toArray, List.getElem?_cons_zero, List.getElem?_cons_succ] at ta5 tb5 ta6 tb6 ta7 tb7 ta8 tb8 ta9 tb9
              generalize hx0 : a.speed = x0 at *
              generalize hy0 : b.speed = y0 at *
              generalize hx1 : a.mute = x1 at *
              generalize hy1 : b.mute = y1 at *
              generalize hx2 : a.wait = x2 at *
              generalize hy2 : b.wait = y2 at *
              generalize hx3 : a.cancel = x3 at *
              generalize hy3 : b.cancel = y3 at *
              generalize hx4 : a.stay = x4 at *
              generalize hy4 : b.stay = y4 at *
              have HXY : Hid (a.speed = x0 ∧ b.speed = y0 ∧ a.mute = x1 ∧ b.mute = y1 ∧ a.wait = x2 ∧ b.wait = y2 ∧ a.cancel = x3 ∧ b.cancel = y3 ∧ a.stay = x4 ∧ b.stay = y4) := ⟨hx0, hy0, hx1, hy1, hx2, hy2, hx3, hy3, hx4, hy4⟩
              clear hx0 hy0 hx1 hy1 hx2 hy2 hx3 hy3 hx4 hy4
              by_cases e0 : x0 = y0
              rotate_left
              · have HNo : Hid (¬ Alike a b) := fun h => e0 (by have := h.2.2.2.2.2.1; rw [HXY.out.1, HXY.out.2.1] at this; exact this)
                have hd : (x0 == y0) = false := by simpa using e0
                clear e0
                go_wp2_with fail
                go_ret
                exact ⟨ret_bool (by rw [decide_eq_false HNo.out]), by rw [← HN0.out, HWR.out]; exact below_drewN HB.out m⟩
              by_cases e1 : x1 = y1
              rotate_left
              · have HNo : Hid (¬ Alike a b) := fun h => e1 (by have := h.2.2.2.2.2.2.1; rw [HXY.out.2.2.1, HXY.out.2.2.2.1] at this; exact this)
                have hd : (x1 == y1) = false := by simpa using e1
                clear e1
                go_wp2_with fail
                go_ret
                exact ⟨ret_bool (by rw [decide_eq_false HNo.out]), by rw [← HN0.out, HWR.out]; exact below_drewN HB.out m⟩
              by_cases e2 : x2 = y2
              rotate_left
              · have HNo : Hid (¬ Alike a b) := fun h => e2 (by have := h.2.2.2.2.2.2.2.1; rw [HXY.out.2.2.2.2.1, HXY.out.2.2.2.2.2.1] at this; exact this)
                have hd : (x2 == y2) = false := by simpa using e2
                clear e2
                go_wp2_with fail
                go_ret
                exact ⟨ret_bool (by rw [decide_eq_false HNo.out]), by rw [← HN0.out, HWR.out]; exact below_drewN HB.out m⟩
              by_cases e3 : x3 = y3
              rotate_left
              · have HNo : Hid (¬ Alike a b) := fun h => e3 (by have := h.2.2.2.2.2.2.2.2.1; rw [HXY.out.2.2.2.2.2.2.1, HXY.out.2.2.2.2.2.2.2.1] at this; exact this)
                have hd : (x3 == y3) = false := by simpa using e3
                clear e3
                go_wp2_with fail
                go_ret
                exact ⟨ret_bool (by rw [decide_eq_false HNo.out]), by rw [← HN0.out, HWR.out]; exact below_drewN HB.out m⟩
              by_cases e4 : x4 = y4
              rotate_left
              · have HNo : Hid (¬ Alike a b) := fun h => e4 (by have := h.2.2.2.2.2.2.2.2.2; rw [HXY.out.2.2.2.2.2.2.2.2.1, HXY.out.2.2.2.2.2.2.2.2.2] at this; exact this)
                have hd : (x4 == y4) = false := by simpa using e4
                clear e4
                go_wp2_with fail
                go_ret
                exact ⟨ret_bool (by rw [decide_eq_false HNo.out]), by rw [← HN0.out, HWR.out]; exact below_drewN HB.out m⟩
              have HYes : Hid (Alike a b) := ⟨HF0.out, HF1.out, HPre.out.2.2.2.1, HF3.out, HPre.out.2.2.2.2, by rw [HXY.out.1, HXY.out.2.1]; exact e0, by rw [HXY.out.2.2.1, HXY.out.2.2.2.1]; exact e1, by rw [HXY.out.2.2.2.2.1, HXY.out.2.2.2.2.2.1]; exact e2, by rw [HXY.out.2.2.2.2.2.2.1, HXY.out.2.2.2.2.2.2.2.1]; exact e3, by rw [HXY.out.2.2.2.2.2.2.2.2.1, HXY.out.2.2.2.2.2.2.2.2.2]; exact e4⟩
              subst e0 e1 e2 e3 e4
              go_wp2_with fail
              go_ret
              exact ⟨ret_bool (by rw [decide_eq_true HYes.out]), by rw [← HN0.out, HWR.out]; exact below_drewN HB.out m⟩

end Go.Proofs.Ythpfhcelmddjlaa
