/- Rule 10 of the document: a point joins the three sections at its node. -/
import Derived.Test.YtagkgejdammflaaGreatV28
import Derived.Test.YtagkgejdammflaaGreatV14
import Derived.Test.YtagkgejdammflaaGreatV10
import Derived.BigQuiet
namespace Go.Proofs.YtagkgejdammflaaGreat
open Go.RowKit Fl
set_option maxRecDepth 100000

theorem noded_in {L : Lay} (hN : Noded L) {n : Int} (h : 0 < (endsL L.secs n).length) : inB n 0 ((L.nodes.length : Int) - 1) = true := by
  obtain ⟨e, he⟩ := List.exists_mem_of_length_pos h
  obtain ⟨i, hi, h1⟩ := endsTo_idx L.secs n e L.secs.length he
  have key : ∀ k, e ∈ endsTo L.secs n k → ∃ j, j < k ∧ e ∈ endsAt L.secs n j := by
    intro k
    induction k with
    | zero => intro h; simp [endsTo] at h
    | succ k ih =>
      intro h
      rw [endsTo, List.mem_append] at h
      rcases h with h | h
      · obtain ⟨j, hj, hm⟩ := ih h; exact ⟨j, by omega, hm⟩
      · exact ⟨k, by omega, h⟩
  obtain ⟨j, hj, hm⟩ := key _ he
  obtain ⟨a, b, ha, hb, hal, hbl⟩ := hN _ (List.getElem_mem hj)
  unfold endsAt at hm
  have e1 : L.secs.getD j (0, 0, 0) = L.secs[j] := by simp [hj]
  rw [e1] at hm
  unfold inB
  simp only [decide_eq_true_eq]
  rcases List.mem_append.1 hm with h | h
  · split at h
    · rename_i hh; omega
    · simp at h
  · split at h
    · rename_i hh; omega
    · simp at h

theorem secsAt_length (L : Lay) (n : Int) : (secsAt L n).length = (endsL L.secs n).length := by unfold secsAt; simp

/-- Of three that rise, all among three unlike ones: these are those. -/
theorem three_in {e0 e1 e2 s l r : Int} (h1 : e0 < e1) (h2 : e1 < e2) (a0 : e0 = s ∨ e0 = l ∨ e0 = r) (a1 : e1 = s ∨ e1 = l ∨ e1 = r) (a2 : e2 = s ∨ e2 = l ∨ e2 = r) :
    (s = e0 ∨ s = e1 ∨ s = e2) ∧ (l = e0 ∨ l = e1 ∨ l = e2) ∧ (r = e0 ∨ r = e1 ∨ r = e2) := by omega
theorem in_three {e0 e1 e2 s l r : Int} (n1 : s ≠ l) (n2 : s ≠ r) (n3 : l ≠ r) (h1 : e0 < e1) (h2 : e1 < e2) (a0 : s = e0 ∨ s = e1 ∨ s = e2) (a1 : l = e0 ∨ l = e1 ∨ l = e2) (a2 : r = e0 ∨ r = e1 ∨ r = e2) :
    (e0 = s ∨ e0 = l ∨ e0 = r) ∧ (e1 = s ∨ e1 = l ∨ e1 = r) ∧ (e2 = s ∨ e2 = l ∨ e2 = r) := by omega

theorem three_aux (es : List (Int × Int)) (h3 : es.length = 3) (s l r : Int) (B : Prop) (n1 : s ≠ l) (n2 : s ≠ r) (n3 : l ≠ r) (hr : (es.map (·.1)).Pairwise (· < ·)) (hj : B ↔ ((es.map (·.1)).length = 3 ∧ s ∈ es.map (·.1) ∧ l ∈ es.map (·.1) ∧ r ∈ es.map (·.1)) ∧ s ≠ l ∧ s ≠ r ∧ l ≠ r) :
    (es.getD 0 (0, 0)).1 < (es.getD 1 (0, 0)).1 ∧ (es.getD 1 (0, 0)).1 < (es.getD 2 (0, 0)).1 ∧
    (B ↔ ∀ j, j < 3 → (es.getD j (0, 0)).1 = s ∨ (es.getD j (0, 0)).1 = l ∨ (es.getD j (0, 0)).1 = r) := by
  match es, h3 with
  | [(a, _), (b, _), (c, _)], _ =>
    simp only [List.map_cons, List.map_nil, List.pairwise_cons, List.mem_cons, List.not_mem_nil, or_false, forall_eq_or_imp, forall_eq, List.length_cons, List.length_nil] at hr hj
    have h1 : a < b := hr.1.1
    have h2 : b < c := hr.2.1
    refine ⟨h1, h2, ?_⟩
    rw [hj]
    constructor
    · rintro ⟨⟨-, a0, a1, a2⟩, -⟩ j hj3
      obtain ⟨x0, x1, x2⟩ := in_three n1 n2 n3 h1 h2 a0 a1 a2
      rcases (by omega : j = 0 ∨ j = 1 ∨ j = 2) with rfl | rfl | rfl
      · exact x0
      · exact x1
      · exact x2
    · intro hall
      have x0 := hall 0 (by decide)
      have x1 := hall 1 (by decide)
      have x2 := hall 2 (by decide)
      obtain ⟨a0, a1, a2⟩ := three_in h1 h2 x0 x1 x2
      exact ⟨⟨trivial, a0, a1, a2⟩, n1, n2, n3⟩

theorem joins_three {L : Lay} (hP : Parted L) (p : Int × Int × Int × Int) (h3 : (endsL L.secs p.1).length = 3) (n1 : p.2.1 ≠ p.2.2.1) (n2 : p.2.1 ≠ p.2.2.2) (n3 : p.2.2.1 ≠ p.2.2.2) :
    ((endsL L.secs p.1).getD 0 (0, 0)).1 < ((endsL L.secs p.1).getD 1 (0, 0)).1 ∧ ((endsL L.secs p.1).getD 1 (0, 0)).1 < ((endsL L.secs p.1).getD 2 (0, 0)).1 ∧
    (joinsB L p = true ↔ ∀ j, j < 3 → ((endsL L.secs p.1).getD j (0, 0)).1 = p.2.1 ∨ ((endsL L.secs p.1).getD j (0, 0)).1 = p.2.2.1 ∨ ((endsL L.secs p.1).getD j (0, 0)).1 = p.2.2.2) :=
  three_aux (endsL L.secs p.1) h3 p.2.1 p.2.2.1 p.2.2.2 _ n1 n2 n3 (secsAt_rises hP p.1) (joins_iff hP p)

set_option maxHeartbeats 4000000 in
theorem holds10 (w : World) (v : Value) (L : Lay) (p : Nat) (h : LayV w w.heap.size v L) (hL : Fits L) (hT : Parted L) (hN : Noded L) (hp : p < L.points.length) : Calls Tryz.prog 26 #[v, .int .i64 10, .int .i64 (p : Int)] w (RetL (joinsB L L.points[p]) w) := by
  have HV0 := Lib.hid h
  obtain ⟨vN, vS, vP, vQ, vR, ps, rfl, hd⟩ := h
  obtain ⟨⟨A0, c0, rfl⟩, ⟨A1, c1, rfl⟩, ⟨A2, c2, rfl⟩, ⟨A3, c3, rfl⟩, ⟨A4, c4, rfl⟩⟩ := hd.slices
  have hbn := (Below.refl w.heap.size w).alloc (Nat.le_refl _) (.cells #[.slice A0 L.nodes.length c0, .slice A1 L.secs.length c1, .slice A2 L.parts.length c2, .slice A3 L.points.length c3, .slice A4 L.routes.length c4, .int .i64 L.speed, .int .i64 L.mute, .int .i64 L.wait, .int .i64 L.cancel, .int .i64 L.stay] 33)
  have HBA := Lib.hid hbn
  have HRA := Lib.hid (Row.new w 33 #[.slice A0 L.nodes.length c0, .slice A1 L.secs.length c1, .slice A2 L.parts.length c2, .slice A3 L.points.length c3, .slice A4 L.routes.length c4, .int .i64 L.speed, .int .i64 L.mute, .int .i64 L.wait, .int .i64 L.cancel, .int .i64 L.stay])
  have HVA := Lib.hid (HV0.out.up hbn)
  have HDA := Lib.hid (hd.mono hbn.size (fun _ hp => hbn.cell hp))
  have HDQ := Lib.hid (hd.q.mono hbn.size (fun _ hp => hbn.cell hp))
  clear hbn hd HV0
  have HL := Lib.hid hL
  clear HDA
  have hq100 := hL.q
  obtain ⟨A', c', hv, hx⟩ := HDQ.out
  obtain ⟨qb, qo, hA, hbl, hc⟩ := hx (by omega)
  injection hv with e1 _ e3
  subst e1 e3
  subst hA
  obtain ⟨q0, q1, q2, q3⟩ := hc p hp
  have hel := endsL_le L hL (L.points[p].1)
  have hno := noded_in hN (n := L.points[p].1)
  have HJ3 := Lib.hid (joins_three hT L.points[p])
  have HJF : Hid (¬ ((endsL L.secs L.points[p].1).length = 3 ∧ L.points[p].2.1 ≠ L.points[p].2.2.1 ∧ L.points[p].2.1 ≠ L.points[p].2.2.2 ∧ L.points[p].2.2.1 ≠ L.points[p].2.2.2) → joinsB L L.points[p] = false) := fun hn => by
    cases hb : joinsB L L.points[p] with
    | false => rfl
    | true =>
      have := (joins_iff hT L.points[p]).1 hb
      rw [secsAt_length] at this
      exact absurd ⟨this.1.1, this.2⟩ hn
  have hpi : (p : Int) < (L.points.length : Int) := by omega
  obtain ⟨B, hB⟩ : ∃ B, joinsB L L.points[p] = B := ⟨_, rfl⟩
  rw [hB] at HJ3 HJF ⊢
  generalize L.points[p] = z at *
  obtain ⟨z0, z1, z2, z3⟩ := z
  simp only at q0 q1 q2 q3 hel hno HJ3 HJF
  have HNO := Lib.hid hno
  clear hL hT hN hx hc hp hB hno HDQ hbl
  go_enter Tryz.func26, Tryz.ntmps26
  go_upto_region 1 with (fail)
  obtain ⟨n0, hn0⟩ : ∃ n, n = w.heap.size := ⟨_, rfl⟩
  rw [← hn0] at HRA ⊢
  clear hn0
  generalize w.alloc (.cells #[.slice A0 L.nodes.length c0, .slice A1 L.secs.length c1, .slice A2 L.parts.length c2, .slice (some ⟨qb, qo, none⟩) L.points.length c3, .slice A4 L.routes.length c4, .int .i64 L.speed, .int .i64 L.mute, .int .i64 L.wait, .int .i64 L.cancel, .int .i64 L.stay] 33) = W0 at *
  have l0 : W0.cell? ⟨n0, 0, none⟩ = some (.slice A0 L.nodes.length c0) := by have h := HRA.out.cell 0; simpa using h
  have l1 : W0.cell? ⟨n0, 1, none⟩ = some (.slice A1 L.secs.length c1) := by have h := HRA.out.cell 1; simpa using h
  have l2 : W0.cell? ⟨n0, 2, none⟩ = some (.slice A2 L.parts.length c2) := by have h := HRA.out.cell 2; simpa using h
  have l3 : W0.cell? ⟨n0, 3, none⟩ = some (.slice (some ⟨qb, qo, none⟩) L.points.length c3) := by have h := HRA.out.cell 3; simpa using h
  have l4 : W0.cell? ⟨n0, 4, none⟩ = some (.slice A4 L.routes.length c4) := by have h := HRA.out.cell 4; simpa using h
  have l5 : W0.cell? ⟨n0, 5, none⟩ = some (.int .i64 L.speed) := by have h := HRA.out.cell 5; simpa using h
  have l6 : W0.cell? ⟨n0, 6, none⟩ = some (.int .i64 L.mute) := by have h := HRA.out.cell 6; simpa using h
  have l7 : W0.cell? ⟨n0, 7, none⟩ = some (.int .i64 L.wait) := by have h := HRA.out.cell 7; simpa using h
  have l8 : W0.cell? ⟨n0, 8, none⟩ = some (.int .i64 L.cancel) := by have h := HRA.out.cell 8; simpa using h
  have l9 : W0.cell? ⟨n0, 9, none⟩ = some (.int .i64 L.stay) := by have h := HRA.out.cell 9; simpa using h
  go_upto_region 29 with (fail)
  have HR3 := Lib.hid (Row.new W0 41 #[.int .i64 z0, .int .i64 z1, .int .i64 z2, .int .i64 z3])
  have hbn := (Below.refl W0.heap.size W0).alloc (Nat.le_refl _) (.cells #[.int .i64 z0, .int .i64 z1, .int .i64 z2, .int .i64 z3] 41)
  have HB1 := Lib.hid (HBA.out.trans (hbn.mono HBA.out.size))
  have HV1 := Lib.hid (HVA.out.up hbn)
  have HR1 := Lib.hid (Below.row hbn HRA.out HRA.out.lt)
  clear hbn q0 q1 q2 q3 l0 l1 l2 l3 l4 l5 l6 l7 l8 l9 HBA HVA HRA
  obtain ⟨n3, hn3⟩ : ∃ n, n = W0.heap.size := ⟨_, rfl⟩
  rw [← hn3] at HR3 ⊢
  clear hn3
  generalize W0.alloc (.cells #[.int .i64 z0, .int .i64 z1, .int .i64 z2, .int .i64 z3] 41) = W1 at *
  have l0 : W1.cell? ⟨n0, 0, none⟩ = some (.slice A0 L.nodes.length c0) := by have h := HR1.out.cell 0; simpa using h
  have l1 : W1.cell? ⟨n0, 1, none⟩ = some (.slice A1 L.secs.length c1) := by have h := HR1.out.cell 1; simpa using h
  have l2 : W1.cell? ⟨n0, 2, none⟩ = some (.slice A2 L.parts.length c2) := by have h := HR1.out.cell 2; simpa using h
  have l3 : W1.cell? ⟨n0, 3, none⟩ = some (.slice (some ⟨qb, qo, none⟩) L.points.length c3) := by have h := HR1.out.cell 3; simpa using h
  have l4 : W1.cell? ⟨n0, 4, none⟩ = some (.slice A4 L.routes.length c4) := by have h := HR1.out.cell 4; simpa using h
  have l5 : W1.cell? ⟨n0, 5, none⟩ = some (.int .i64 L.speed) := by have h := HR1.out.cell 5; simpa using h
  have l6 : W1.cell? ⟨n0, 6, none⟩ = some (.int .i64 L.mute) := by have h := HR1.out.cell 6; simpa using h
  have l7 : W1.cell? ⟨n0, 7, none⟩ = some (.int .i64 L.wait) := by have h := HR1.out.cell 7; simpa using h
  have l8 : W1.cell? ⟨n0, 8, none⟩ = some (.int .i64 L.cancel) := by have h := HR1.out.cell 8; simpa using h
  have l9 : W1.cell? ⟨n0, 9, none⟩ = some (.int .i64 L.stay) := by have h := HR1.out.cell 9; simpa using h
  have x0 := HR3.out.cell 0
  simp only [List.getElem?_toArray, List.getElem?_cons_zero] at x0
  go_wp2_with fail
  refine (refEnds_any W1 W1.heap.size _ L z0 HV1.out (Nat.le_refl _) HL.out).mono ?_; rintro e w2 ⟨v2, rfl, ho, hb⟩
  have HB2 := Lib.hid (HB1.out.trans (hb.mono HB1.out.size))
  have HR2 := Lib.hid (Below.row hb HR1.out HR1.out.lt)
  have HX2 := Lib.hid (Below.row hb HR3.out HR3.out.lt)
  have HV2 := Lib.hid (HV1.out.up hb)
  have HPR := Lib.hid (Prs.of_own ho)
  obtain ⟨Ae, ce, hve⟩ := own_slice ho
  subst hve
  clear ho hb l0 l1 l2 l3 l4 l5 l6 l7 l8 l9 x0 HR1 HV1 HB1 HR3
  have l0 : w2.cell? ⟨n0, 0, none⟩ = some (.slice A0 L.nodes.length c0) := by have h := HR2.out.cell 0; simpa using h
  have l1 : w2.cell? ⟨n0, 1, none⟩ = some (.slice A1 L.secs.length c1) := by have h := HR2.out.cell 1; simpa using h
  have l2 : w2.cell? ⟨n0, 2, none⟩ = some (.slice A2 L.parts.length c2) := by have h := HR2.out.cell 2; simpa using h
  have l3 : w2.cell? ⟨n0, 3, none⟩ = some (.slice (some ⟨qb, qo, none⟩) L.points.length c3) := by have h := HR2.out.cell 3; simpa using h
  have l4 : w2.cell? ⟨n0, 4, none⟩ = some (.slice A4 L.routes.length c4) := by have h := HR2.out.cell 4; simpa using h
  have l5 : w2.cell? ⟨n0, 5, none⟩ = some (.int .i64 L.speed) := by have h := HR2.out.cell 5; simpa using h
  have l6 : w2.cell? ⟨n0, 6, none⟩ = some (.int .i64 L.mute) := by have h := HR2.out.cell 6; simpa using h
  have l7 : w2.cell? ⟨n0, 7, none⟩ = some (.int .i64 L.wait) := by have h := HR2.out.cell 7; simpa using h
  have l8 : w2.cell? ⟨n0, 8, none⟩ = some (.int .i64 L.cancel) := by have h := HR2.out.cell 8; simpa using h
  have l9 : w2.cell? ⟨n0, 9, none⟩ = some (.int .i64 L.stay) := by have h := HR2.out.cell 9; simpa using h
  have x0 := HX2.out.cell 0
  simp only [List.getElem?_toArray, List.getElem?_cons_zero] at x0
  go_wp2_with fail
  refine (refNode52_any w2 _ L z0 HV2.out).mono ?_; rintro e w3 ⟨rfl, hb⟩
  have HB3 := Lib.hid (HB2.out.trans (hb.mono HB2.out.size))
  have HX3 := Lib.hid (Below.row hb HX2.out HX2.out.lt)
  have HP3 : Hid (Prs w3 w3.heap.size (.slice Ae (endsL L.secs z0).length ce) (endsL L.secs z0)) := HPR.out.mono hb.size (fun k hp => hb.block k hp)
  clear hb l0 l1 l2 l3 l4 l5 l6 l7 l8 l9 x0 HR2 HV2 HB2 HX2 HPR
  have x1 := HX3.out.cell 1; have x2 := HX3.out.cell 2; have x3 := HX3.out.cell 3
  simp only [List.getElem?_toArray, List.getElem?_cons_zero, List.getElem?_cons_succ] at x1 x2 x3
  generalize endsL L.secs z0 = es at *
  cases hin : inB z0 0 ((L.nodes.length : Int) - 1) with
  | false =>
    have hB : B = false := HJF.out (fun hh => by
      have := HNO.out (by omega)
      rw [hin] at this; cases this)
    subst hB
    clear hin
    go_wp2_with fail
    go_ret
    exact ⟨rfl, HB3.out⟩
  | true =>
    clear hin HNO
    by_cases h3 : es.length = 3
    · have g3 : ((es.length : Int) != 3) = false := by simp; omega
      by_cases n1 : z1 = z2
      · have hB : B = false := HJF.out (fun hh => hh.2.1 n1)
        subst hB
        subst n1
        have k1 : (z1 == z1) = true := by simp
        clear HJ3 HJF h3
        go_wp2_with fail
        go_ret
        exact ⟨rfl, HB3.out⟩
      · have k1 : (z1 == z2) = false := by simpa using n1
        by_cases n2 : z1 = z3
        · have hB : B = false := HJF.out (fun hh => hh.2.2.1 n2)
          subst hB
          subst n2
          have k2 : (z1 == z1) = true := by simp
          clear HJ3 HJF h3
          go_wp2_with fail
          go_ret
          exact ⟨rfl, HB3.out⟩
        · have k2 : (z1 == z3) = false := by simpa using n2
          by_cases n3' : z2 = z3
          · have hB : B = false := HJF.out (fun hh => hh.2.2.2 n3')
            subst hB
            subst n3'
            have k3 : (z2 == z2) = true := by simp
            clear HJ3 HJF h3
            go_wp2_with fail
            go_ret
            exact ⟨rfl, HB3.out⟩
          · have k3 : (z2 == z3) = false := by simpa using n3'
            obtain ⟨r1, r2, hiff0⟩ := HJ3.out h3 n1 n2 n3'
            have eg : ∀ j (h : j < es.length), es.getD j (0, 0) = es[j] := fun j h => by simp [h]
            rw [eg 0 (by omega), eg 1 (by omega)] at r1
            rw [eg 1 (by omega), eg 2 (by omega)] at r2
            have hiff : B = true ↔ ∀ j (h : j < 3), (es[j]'(by omega)).1 = z1 ∨ (es[j]'(by omega)).1 = z2 ∨ (es[j]'(by omega)).1 = z3 := by
              rw [hiff0]; constructor
              · intro h j hj; have := h j hj; rw [eg j (by omega)] at this; exact this
              · intro h j hj; have := h j hj; rw [eg j (by omega)]; exact this
            clear eg hiff0
            have HIF := Lib.hid hiff
            have HRR : Hid (es[0].1 < es[1].1 ∧ es[1].1 < es[2].1) := ⟨r1, r2⟩
            have H3 := Lib.hid h3
            obtain ⟨m3, hm3⟩ : ∃ m, es.length = m := ⟨_, rfl⟩
            rw [hm3] at HP3 g3 ⊢
            have hm : m3 = 3 := by omega
            subst hm
            clear HJ3 HJF hiff r1 r2 hm3 n1 n2 n3' g3
            go_wp2_with fail
            go_loopw [12] (fun u wr => ∃ k : Nat, k ≤ 3 ∧ u = .int .i64 k ∧ wr = w3 ∧ Hid (∀ j (h : j < es.length), j < k → es[j].1 = z1 ∨ es[j].1 = z2 ∨ es[j].1 = z3)) (fun u _ => 3 - (intOf u).toNat)
            case atStart => exact ⟨0, by omega, rfl, rfl, fun j _ hj => by omega⟩
            case round =>
              obtain ⟨k, hk, rfl, hwr, HA⟩ := hrel
              subst hwr
              by_cases hk3 : k < 3
              · have hki : (k : Int) < 3 := by omega
                have hke : k < es.length := by have := H3.out; omega
                obtain ⟨be, oe, hAe, -, y0, -⟩ := HP3.out.at k hke
                subst hAe
                have HAS : Hid ((es[k].1 = z1 ∨ es[k].1 = z2 ∨ es[k].1 = z3) → ∀ j (h : j < es.length), j < k + 1 → es[j].1 = z1 ∨ es[j].1 = z2 ∨ es[j].1 = z3) := fun hh j hj hjk => by
                  rcases Nat.lt_or_ge j k with c | c
                  · exact HA.out j hj c
                  · obtain rfl : j = k := by omega
                    exact hh
                have HNF : Hid (¬ (es[k].1 = z1 ∨ es[k].1 = z2 ∨ es[k].1 = z3) → B = false) := fun hh => by
                  cases B with
                  | false => rfl
                  | true => exact absurd (HIF.out.1 rfl k hk3) hh
                generalize es[k].1 = y at *
                clear HA
                by_cases a1 : y = z1
                · have HN2 := Lib.hid (HAS.out (Or.inl a1))
                  subst a1
                  have b1 : (y != y) = false := by simp
                  clear HAS HNF
                  go_wp2_with fail
                  go_roundw
                  case rel => exact ⟨k + 1, by omega, by go_num, (by first | rfl | trivial), HN2.out⟩
                  case measure => simp [intOf]; omega
                · have b1 : (y != z1) = true := by simpa using a1
                  by_cases a2 : y = z2
                  · have HN2 := Lib.hid (HAS.out (Or.inr (Or.inl a2)))
                    subst a2
                    have b2 : (y != y) = false := by simp
                    clear HAS HNF
                    go_wp2_with fail
                    go_roundw
                    case rel => exact ⟨k + 1, by omega, by go_num, (by first | rfl | trivial), HN2.out⟩
                    case measure => simp [intOf]; omega
                  · have b2 : (y != z2) = true := by simpa using a2
                    by_cases a3 : y = z3
                    · have HN2 := Lib.hid (HAS.out (Or.inr (Or.inr a3)))
                      subst a3
                      have b3 : (y != y) = false := by simp
                      clear HAS HNF
                      go_wp2_with fail
                      go_roundw
                      case rel => exact ⟨k + 1, by omega, by go_num, (by first | rfl | trivial), HN2.out⟩
                      case measure => simp [intOf]; omega
                    · have b3 : (y != z3) = true := by simpa using a3
                      have hB : B = false := HNF.out (fun hh => by rcases hh with h | h | h; exact a1 h; exact a2 h; exact a3 h)
                      subst hB
                      clear HAS HNF
                      go_wp2_with fail
                      go_ret
                      exact ⟨rfl, HB3.out⟩
              · have hke : k = 3 := by omega
                subst hke
                have hB : B = true := HIF.out.2 (fun j hj => HA.out j (by have := H3.out; omega) hj)
                subst hB
                have h0 : 0 < es.length := by have := H3.out; omega
                have h1 : 1 < es.length := by have := H3.out; omega
                have h2 : 2 < es.length := by have := H3.out; omega
                obtain ⟨be, oe, hAe, -, y0, -⟩ := HP3.out.at 0 h0
                obtain ⟨be1, oe1, hAe1, -, y1, -⟩ := HP3.out.at 1 h1
                obtain ⟨be2, oe2, hAe2, -, y2, -⟩ := HP3.out.at 2 h2
                subst hAe
                injection hAe1 with hAe1; injection hAe1 with q1 q2
                injection hAe2 with hAe2; injection hAe2 with q3 q4
                subst q1 q2 q3 q4
                have hlt := HRR.out
                generalize es[0].1 = u0 at *
                generalize es[1].1 = u1 at *
                generalize es[2].1 = u2 at *
                simp only [Nat.zero_mul, Nat.one_mul, Nat.add_zero, Nat.reduceMul] at y0 y1 y2
                have f1 : (u0 != u1) = true := by simp; omega
                have f2 : (u1 != u2) = true := by simp; omega
                clear hlt HRR HIF HA h0 h1 h2
                go_upto_region 38 with (fail)
                go_quiet (fail)
                have HBQ := Lib.hid (below_drewN HB3.out nq)
                go_wp2_with fail
                go_ret
                exact ⟨rfl, HBQ.out⟩
    · have g3 : ((es.length : Int) != 3) = true := by simp; omega
      have hB : B = false := HJF.out (fun hh => h3 hh.1)
      subst hB
      clear HJ3 HJF h3
      go_wp2_with fail
      go_ret
      exact ⟨rfl, HB3.out⟩
end Go.Proofs.YtagkgejdammflaaGreat
