/- The document's First: for every layout that isn't too big it is the program's. -/
import Derived.Test.YtagkgejdammflaaGreatV30
namespace Go.Proofs.YtagkgejdammflaaGreat
open Go.RowKit Fl
set_option maxRecDepth 100000

theorem ruleNo_one (r : Nat) (h1 : 1 ≤ r) (h2 : r ≤ 15) : ruleNo (kOne r) = r ∧ kOne r < 17 := by
  rcases (by omega : r = 1 ∨ r = 2 ∨ r = 3 ∨ r = 4 ∨ r = 5 ∨ r = 6 ∨ r = 7 ∨ r = 8 ∨ r = 9 ∨ r = 10 ∨ r = 11 ∨ r = 12 ∨ r = 13 ∨ r = 14 ∨ r = 15) with rfl | rfl | rfl | rfl | rfl | rfl | rfl | rfl | rfl | rfl | rfl | rfl | rfl | rfl | rfl <;> decide
theorem ruleNo_two (r : Nat) (h : r = 13 ∨ r = 15) : ruleNo (kTwo r) = r ∧ kTwo r < 17 := by
  rcases h with rfl | rfl <;> decide
theorem refM_two {L : Lay} {r : Nat} (h : r = 13 ∨ r = 15) : ruleN L (kTwo r) = refM L r := by
  rcases h with rfl | rfl <;> rfl
theorem refM_pos {L : Lay} {r : Nat} (h : 0 < refM L r) : r = 13 ∨ r = 15 := by
  unfold refM at h
  by_cases h1 : r = 13
  · exact Or.inl h1
  · rw [if_neg h1] at h
    by_cases h2 : r = 15
    · exact Or.inr h2
    · rw [if_neg h2] at h; omega
theorem before_two {L : Lay} {r : Nat} (hr : r = 13 ∨ r = 15) (hp : ∀ k, k < kOne r → Holds17 L k) (h1 : Holds17 L (kOne r)) : ∀ k, k < kTwo r → Holds17 L k := by
  intro k hk
  rcases hr with rfl | rfl
  · have hk' : k < 13 := hk
    rcases Nat.lt_or_ge k 12 with c | c
    · exact hp k c
    · obtain rfl : k = 12 := by omega
      exact h1
  · have hk' : k < 16 := hk
    rcases Nat.lt_or_ge k 15 with c | c
    · exact hp k c
    · obtain rfl : k = 15 := by omega
      exact h1
theorem holds_step {L : Lay} {r : Nat} (h0 : 1 ≤ r) (h9 : r ≤ 15) (hp : ∀ k, k < kOne r → Holds17 L k) (h1 : Holds17 L (kOne r)) (h2 : r = 13 ∨ r = 15 → Holds17 L (kTwo r)) : ∀ k, k < kOne (r + 1) → Holds17 L k := by
  intro k hk
  by_cases hr : r = 13 ∨ r = 15
  · have hb := before_two hr hp h1
    have h3 := h2 hr
    rcases Nat.lt_or_ge k (kTwo r) with c | c
    · exact hb k c
    · have e : k = kTwo r := by
        rcases hr with rfl | rfl
        · have : k < 14 := hk
          have : 13 ≤ k := c
          show k = 13
          omega
        · have : k < 17 := hk
          have : 16 ≤ k := c
          show k = 16
          omega
      rw [e]; exact h3
  · rcases Nat.lt_or_ge k (kOne r) with c | c
    · exact hp k c
    · have e : k = kOne r := by
        unfold kOne at hk c ⊢
        by_cases h13 : r ≤ 13
        · rw [if_pos h13] at c ⊢
          by_cases h14 : r + 1 ≤ 13
          · rw [if_pos h14] at hk; omega
          · exact absurd (Or.inl (by omega)) hr
        · rw [if_neg h13, if_pos h9] at c ⊢
          rw [if_neg (by omega)] at hk
          by_cases h15 : r + 1 ≤ 15
          · rw [if_pos h15] at hk; omega
          · exact absurd (Or.inr (by omega)) hr
      rw [e]; exact h1
theorem refN_le {L : Lay} (hV : Vf L) (r : Nat) (h1 : 1 ≤ r) (h2 : r ≤ 15) : refN L r ≤ 1000 := ruleN_le hV _ (ruleNo_one r h1 h2).2
theorem refM_le {L : Lay} (hV : Vf L) (r : Nat) : refM L r ≤ 1000 := by
  have := hV.f.p; have := hV.r
  unfold refM
  split
  · omega
  · split <;> omega

structure FiSt (w : World) (n0 : Nat) (cl : Array Value) (L : Lay) (W : World) : Prop where
  bel : Below w.heap.size w W
  row : Row W n0 33 cl
  lay : LayV W W.heap.size (.agg cl) L
theorem FiSt.call {w : World} {n0 : Nat} {cl : Array Value} {L : Lay} {W W' : World} (h : FiSt w n0 cl L W) (hb : Below W.heap.size W W') : FiSt w n0 cl L W' :=
  ⟨h.bel.trans (hb.mono h.bel.size), Below.row hb h.row h.row.lt, h.lay.up hb⟩

set_option maxHeartbeats 4000000 in
theorem refFirst_any (w : World) (v : Value) (L : Lay) (h : LayV w w.heap.size v L) (hV : Vf L) (hR : ∀ r ∈ L.routes, r.length ≤ 1000) : Calls Tryz.prog 19 #[v] w (RetTwo (firstL L) w) := by
  have HV0 := Lib.hid h
  obtain ⟨vN, vS, vP, vQ, vR, ps, rfl, hd⟩ := h
  obtain ⟨⟨A0, c0, rfl⟩, ⟨A1, c1, rfl⟩, ⟨A2, c2, rfl⟩, ⟨A3, c3, rfl⟩, ⟨A4, c4, rfl⟩⟩ := hd.slices
  have hbn := (Below.refl w.heap.size w).alloc (Nat.le_refl _) (.cells #[.slice A0 L.nodes.length c0, .slice A1 L.secs.length c1, .slice A2 L.parts.length c2, .slice A3 L.points.length c3, .slice A4 L.routes.length c4, .int .i64 L.speed, .int .i64 L.mute, .int .i64 L.wait, .int .i64 L.cancel, .int .i64 L.stay] 33)
  have HBA := Lib.hid hbn
  have HRA := Lib.hid (Row.new w 33 #[.slice A0 L.nodes.length c0, .slice A1 L.secs.length c1, .slice A2 L.parts.length c2, .slice A3 L.points.length c3, .slice A4 L.routes.length c4, .int .i64 L.speed, .int .i64 L.mute, .int .i64 L.wait, .int .i64 L.cancel, .int .i64 L.stay])
  have HVA := Lib.hid (HV0.out.up hbn)
  have HDA := Lib.hid (hd.mono hbn.size (fun _ hp => hbn.cell hp))
  clear hbn hd HV0
  have HVV := Lib.hid hV
  have HRR := Lib.hid hR
  have HS0 : Hid (FiSt w w.heap.size #[.slice A0 L.nodes.length c0, .slice A1 L.secs.length c1, .slice A2 L.parts.length c2, .slice A3 L.points.length c3, .slice A4 L.routes.length c4, .int .i64 L.speed, .int .i64 L.mute, .int .i64 L.wait, .int .i64 L.cancel, .int .i64 L.stay] L (w.alloc (.cells #[.slice A0 L.nodes.length c0, .slice A1 L.secs.length c1, .slice A2 L.parts.length c2, .slice A3 L.points.length c3, .slice A4 L.routes.length c4, .int .i64 L.speed, .int .i64 L.mute, .int .i64 L.wait, .int .i64 L.cancel, .int .i64 L.stay] 33))) := ⟨HBA.out, HRA.out, HVA.out⟩
  obtain ⟨RP, hRP⟩ : ∃ R, R = RetTwo (firstL L) w := ⟨_, rfl⟩
  rw [← hRP]
  have HRP := Lib.hid hRP
  clear hRP hV hR HBA HRA HVA HDA
  go_enter Tryz.func19, Tryz.ntmps19
  go_upto_region 1 with (fail)
  obtain ⟨n0, hn0⟩ : ∃ n, n = w.heap.size := ⟨_, rfl⟩
  have HS1 : Hid (FiSt w n0 #[.slice A0 L.nodes.length c0, .slice A1 L.secs.length c1, .slice A2 L.parts.length c2, .slice A3 L.points.length c3, .slice A4 L.routes.length c4, .int .i64 L.speed, .int .i64 L.mute, .int .i64 L.wait, .int .i64 L.cancel, .int .i64 L.stay] L (w.alloc (.cells #[.slice A0 L.nodes.length c0, .slice A1 L.secs.length c1, .slice A2 L.parts.length c2, .slice A3 L.points.length c3, .slice A4 L.routes.length c4, .int .i64 L.speed, .int .i64 L.mute, .int .i64 L.wait, .int .i64 L.cancel, .int .i64 L.stay] 33))) := by rw [hn0]; exact HS0.out
  rw [← hn0]
  clear hn0 HS0
  generalize w.alloc (.cells #[.slice A0 L.nodes.length c0, .slice A1 L.secs.length c1, .slice A2 L.parts.length c2, .slice A3 L.points.length c3, .slice A4 L.routes.length c4, .int .i64 L.speed, .int .i64 L.mute, .int .i64 L.wait, .int .i64 L.cancel, .int .i64 L.stay] 33) = W0 at *
  go_wp2_with fail
  go_loopw [4] (fun u wr => ∃ r : Nat, 1 ≤ r ∧ r ≤ 16 ∧ u = .int .i64 r ∧ Hid ((∀ k, k < kOne r → Holds17 L k) ∧ FiSt w n0 #[.slice A0 L.nodes.length c0, .slice A1 L.secs.length c1, .slice A2 L.parts.length c2, .slice A3 L.points.length c3, .slice A4 L.routes.length c4, .int .i64 L.speed, .int .i64 L.mute, .int .i64 L.wait, .int .i64 L.cancel, .int .i64 L.stay] L wr)) (fun u _ => 16 - (intOf u).toNat)
  case atStart => exact ⟨1, by omega, by omega, rfl, fun k hk => absurd hk (by show ¬ k < 0; omega), HS1.out⟩
  case round =>
    obtain ⟨r, hr1, hr2, rfl, HJ⟩ := hrel
    clear HS1
    by_cases hr : r ≤ 15
    · have hri : (r : Int) ≤ 15 := by omega
      have l0 := HJ.out.2.row.cell 0
      have l1 := HJ.out.2.row.cell 1
      have l2 := HJ.out.2.row.cell 2
      have l3 := HJ.out.2.row.cell 3
      have l4 := HJ.out.2.row.cell 4
      have l5 := HJ.out.2.row.cell 5
      have l6 := HJ.out.2.row.cell 6
      have l7 := HJ.out.2.row.cell 7
      have l8 := HJ.out.2.row.cell 8
      have l9 := HJ.out.2.row.cell 9
      simp only [List.getElem?_toArray, List.getElem?_cons_zero, List.getElem?_cons_succ] at l0 l1 l2 l3 l4 l5 l6 l7 l8 l9
      have hpl := places_any wr (.agg #[.slice A0 L.nodes.length c0, .slice A1 L.secs.length c1, .slice A2 L.parts.length c2, .slice A3 L.points.length c3, .slice A4 L.routes.length c4, .int .i64 L.speed, .int .i64 L.mute, .int .i64 L.wait, .int .i64 L.cancel, .int .i64 L.stay]) L HJ.out.2.lay r hr1 hr
      have hNle := refN_le HVV.out r hr1 hr
      have hMle := refM_le HVV.out r
      obtain ⟨nN, hnN⟩ : ∃ n, refN L r = n := ⟨_, rfl⟩
      obtain ⟨nM, hnM⟩ : ∃ n, refM L r = n := ⟨_, rfl⟩
      have HNN := Lib.hid hnN
      have HNM := Lib.hid hnM
      rw [hnN] at hpl hNle
      rw [hnM] at hpl hMle
      clear hnN hnM
      go_wp2_with fail
      refine hpl.mono ?_; rintro e w1 ⟨rfl, hb1⟩
      have HA := Lib.hid (HJ.out.2.call hb1)
      have HPV := Lib.hid HJ.out.1
      clear hb1 HJ hpl
      clear l0 l1 l2 l3 l4 l5 l6 l7 l8 l9
      go_wp2_with fail
      go_loopw [7] (fun u wr => ∃ p : Nat, p ≤ nN ∧ u = .int .i64 p ∧ Hid ((∀ p', p' < p → ruleB L (kOne r) p' = true) ∧ FiSt w n0 #[.slice A0 L.nodes.length c0, .slice A1 L.secs.length c1, .slice A2 L.parts.length c2, .slice A3 L.points.length c3, .slice A4 L.routes.length c4, .int .i64 L.speed, .int .i64 L.mute, .int .i64 L.wait, .int .i64 L.cancel, .int .i64 L.stay] L wr)) (fun u _ => nN - (intOf u).toNat)
      case atStart => exact ⟨0, Nat.zero_le _, rfl, fun p' hp' => absurd hp' (by omega), HA.out⟩
      case round =>
        obtain ⟨p, hp, rfl, HI⟩ := hrel
        clear HA
        by_cases hpn : p < nN
        · have hpi : (p : Int) < (nN : Int) := by omega
          have hpr : p < refN L r := by have := HNN.out; omega
          have hcall := holds_any wr (.agg #[.slice A0 L.nodes.length c0, .slice A1 L.secs.length c1, .slice A2 L.parts.length c2, .slice A3 L.points.length c3, .slice A4 L.routes.length c4, .int .i64 L.speed, .int .i64 L.mute, .int .i64 L.wait, .int .i64 L.cancel, .int .i64 L.stay]) L HI.out.2.lay HVV.out r hr1 hr p hpr HPV.out
          have HBAD : Hid (ruleB L (kOne r) p = false → firstL L = (r, p)) := fun hb => by
            have hn := ruleNo_one r hr1 hr
            have := firstL_bad hn.2 HPV.out hpr HI.out.1 hb
            rw [hn.1] at this; exact this
          have HIS : Hid (ruleB L (kOne r) p = true → ∀ p', p' < p + 1 → ruleB L (kOne r) p' = true) := fun hb p' hp' => by
            rcases Nat.lt_or_ge p' p with c | c
            · exact HI.out.1 p' c
            · obtain rfl : p' = p := by omega
              exact hb
          have l0 := HI.out.2.row.cell 0
          have l1 := HI.out.2.row.cell 1
          have l2 := HI.out.2.row.cell 2
          have l3 := HI.out.2.row.cell 3
          have l4 := HI.out.2.row.cell 4
          have l5 := HI.out.2.row.cell 5
          have l6 := HI.out.2.row.cell 6
          have l7 := HI.out.2.row.cell 7
          have l8 := HI.out.2.row.cell 8
          have l9 := HI.out.2.row.cell 9
          simp only [List.getElem?_toArray, List.getElem?_cons_zero, List.getElem?_cons_succ] at l0 l1 l2 l3 l4 l5 l6 l7 l8 l9
          obtain ⟨bb, hbb⟩ : ∃ b, ruleB L (kOne r) p = b := ⟨_, rfl⟩
          rw [hbb] at hcall HBAD HIS
          have HC := Lib.hid hcall
          clear hbb hcall hpr
          cases bb with
          | true =>
            have HIX := Lib.hid (HIS.out rfl)
            clear HBAD HIS
            go_wp2_with fail
            refine HC.out.mono ?_; rintro e w5 ⟨rfl, hb⟩
            have HY := Lib.hid (HI.out.2.call hb)
            clear hb HC HI
            clear l0 l1 l2 l3 l4 l5 l6 l7 l8 l9
            go_wp2_with fail
            go_roundw
            case rel => exact ⟨p + 1, by omega, by go_num, HIX.out, HY.out⟩
            case measure => simp [intOf]; omega
          | false =>
            have HFF := Lib.hid (HBAD.out rfl)
            clear HBAD HIS
            go_wp2_with fail
            refine HC.out.mono ?_; rintro e w5 ⟨rfl, hb⟩
            have HY := Lib.hid (HI.out.2.call hb)
            clear hb HC HI
            clear l0 l1 l2 l3 l4 l5 l6 l7 l8 l9
            go_wp2_with fail
            rw [HRP.out, HFF.out]
            exact ⟨rfl, HY.out.bel⟩
        · have HH1 : Hid (Holds17 L (kOne r)) := fun p' hp' => HI.out.1 p' (by have := HNN.out; unfold refN at this; omega)
          have HA2 := Lib.hid HI.out.2
          have hpi : ¬ (p : Int) < (nN : Int) := by omega
          clear HI
          go_wp2_with fail
          go_loopw [8] (fun u wr => ∃ p : Nat, p ≤ nM ∧ u = .int .i64 p ∧ Hid ((∀ p', p' < p → ruleB L (kTwo r) p' = true) ∧ FiSt w n0 #[.slice A0 L.nodes.length c0, .slice A1 L.secs.length c1, .slice A2 L.parts.length c2, .slice A3 L.points.length c3, .slice A4 L.routes.length c4, .int .i64 L.speed, .int .i64 L.mute, .int .i64 L.wait, .int .i64 L.cancel, .int .i64 L.stay] L wr)) (fun u _ => nM - (intOf u).toNat)
          case atStart => exact ⟨0, Nat.zero_le _, rfl, fun p' hp' => absurd hp' (by omega), HA2.out⟩
          case round =>
            obtain ⟨p, hp, rfl, HI⟩ := hrel
            clear HA2
            by_cases hpn : p < nM
            · have hpi : (p : Int) < (nM : Int) := by omega
              have hpr : p < refM L r := by have := HNM.out; omega
              have hr13 := refM_pos (L := L) (r := r) (by omega)
              have hcall := part_any' wr (.agg #[.slice A0 L.nodes.length c0, .slice A1 L.secs.length c1, .slice A2 L.parts.length c2, .slice A3 L.points.length c3, .slice A4 L.routes.length c4, .int .i64 L.speed, .int .i64 L.mute, .int .i64 L.wait, .int .i64 L.cancel, .int .i64 L.stay]) L HI.out.2.lay HVV.out HRR.out r hr13 p hpr
              have HBAD : Hid (ruleB L (kTwo r) p = false → firstL L = (r, p)) := fun hb => by
                have hn := ruleNo_two r hr13
                have := firstL_bad hn.2 (before_two hr13 HPV.out HH1.out) (by rw [refM_two hr13]; exact hpr) HI.out.1 hb
                rw [hn.1] at this; exact this
              have HIS : Hid (ruleB L (kTwo r) p = true → ∀ p', p' < p + 1 → ruleB L (kTwo r) p' = true) := fun hb p' hp' => by
                rcases Nat.lt_or_ge p' p with c | c
                · exact HI.out.1 p' c
                · obtain rfl : p' = p := by omega
                  exact hb
              have l0 := HI.out.2.row.cell 0
              have l1 := HI.out.2.row.cell 1
              have l2 := HI.out.2.row.cell 2
              have l3 := HI.out.2.row.cell 3
              have l4 := HI.out.2.row.cell 4
              have l5 := HI.out.2.row.cell 5
              have l6 := HI.out.2.row.cell 6
              have l7 := HI.out.2.row.cell 7
              have l8 := HI.out.2.row.cell 8
              have l9 := HI.out.2.row.cell 9
              simp only [List.getElem?_toArray, List.getElem?_cons_zero, List.getElem?_cons_succ] at l0 l1 l2 l3 l4 l5 l6 l7 l8 l9
              obtain ⟨bb, hbb⟩ : ∃ b, ruleB L (kTwo r) p = b := ⟨_, rfl⟩
              rw [hbb] at hcall HBAD HIS
              have HC := Lib.hid hcall
              clear hbb hcall hpr hr13
              cases bb with
              | true =>
                have HIX := Lib.hid (HIS.out rfl)
                clear HBAD HIS
                go_wp2_with fail
                refine HC.out.mono ?_; rintro e w5 ⟨rfl, hb⟩
                have HY := Lib.hid (HI.out.2.call hb)
                clear hb HC HI
                clear l0 l1 l2 l3 l4 l5 l6 l7 l8 l9
                go_wp2_with fail
                go_roundw
                case rel => exact ⟨p + 1, by omega, by go_num, HIX.out, HY.out⟩
                case measure => simp [intOf]; omega
              | false =>
                have HFF := Lib.hid (HBAD.out rfl)
                clear HBAD HIS
                go_wp2_with fail
                refine HC.out.mono ?_; rintro e w5 ⟨rfl, hb⟩
                have HY := Lib.hid (HI.out.2.call hb)
                clear hb HC HI
                clear l0 l1 l2 l3 l4 l5 l6 l7 l8 l9
                go_wp2_with fail
                rw [HRP.out, HFF.out]
                exact ⟨rfl, HY.out.bel⟩
            · have HNX : Hid (∀ k, k < kOne (r + 1) → Holds17 L k) := holds_step hr1 hr HPV.out HH1.out (fun h13 p' hp' => HI.out.1 p' (by rw [refM_two h13] at hp'; have := HNM.out; omega))
              have HA3 := Lib.hid HI.out.2
              have hpi : ¬ (p : Int) < (nM : Int) := by omega
              clear HI
              go_wp2_with fail
              go_roundw
              case rel => exact ⟨r + 1, by omega, by omega, by go_num, HNX.out, HA3.out⟩
              case measure => simp [intOf]; omega
    · have hre : r = 16 := by omega
      subst hre
      have HFF : Hid (firstL L = (0, 0)) := firstL_good fun k hk => HJ.out.1 k hk
      have HY := Lib.hid HJ.out.2
      clear HJ
      go_wp2_with fail
      rw [HRP.out, HFF.out]
      exact ⟨rfl, HY.out.bel⟩
end Go.Proofs.YtagkgejdammflaaGreat
