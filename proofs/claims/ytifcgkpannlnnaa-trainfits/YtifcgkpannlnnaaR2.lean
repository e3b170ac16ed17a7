/- Contracts: the document's node, Ends. -/
import Derived.Test.YtifcgkpannlnnaaR1
namespace Go.Proofs.Ytifcgkpannlnnaa
open Go.RowKit Fl
set_option maxRecDepth 100000

set_option maxHeartbeats 2000000 in
theorem refNode_any (w : World) (D : Nat) (v : Value) (L : Lay) (s k : Int) (h : LayV w D v L) (hD : D ≤ w.heap.size) (hL : Fits L) :
    Calls Try.prog 52 #[v, .agg #[.int .i64 s, .int .i64 k]] w (RetNode (nodeL L.secs (s, k)) w) := by
  obtain ⟨A0, k0, c0, A1, m1, c1, A2, k2, c2, A3, m3, c3, A4, k4, c4, t0, t1, t2, t3, t4, rfl, hm1, hm3, hSe, hPo⟩ := h.open_
  have hs := hL.s
  have HB0 : Hid (Below w.heap.size w ((w.alloc (.cells #[.slice A0 k0 c0, .slice A1 m1 c1, .slice A2 k2 c2, .slice A3 m3 c3, .slice A4 k4 c4, .int .i64 t0, .int .i64 t1, .int .i64 t2, .int .i64 t3, .int .i64 t4] 36)).alloc (.cells #[.int .i64 s, .int .i64 k] 85))) := below2 w _ _
  have HRL := Lib.hid ((Row.new w 36 #[.slice A0 k0 c0, .slice A1 m1 c1, .slice A2 k2 c2, .slice A3 m3 c3, .slice A4 k4 c4, .int .i64 t0, .int .i64 t1, .int .i64 t2, .int .i64 t3, .int .i64 t4]).alloc (.cells #[.int .i64 s, .int .i64 k] 85))
  have hr1 := Row.new (w.alloc (.cells #[.slice A0 k0 c0, .slice A1 m1 c1, .slice A2 k2 c2, .slice A3 m3 c3, .slice A4 k4 c4, .int .i64 t0, .int .i64 t1, .int .i64 t2, .int .i64 t3, .int .i64 t4] 36)) 85 #[.int .i64 s, .int .i64 k]
  rw [World.size_alloc] at hr1
  have HRE := Lib.hid hr1
  have HS : Hid (Secs ((w.alloc (.cells #[.slice A0 k0 c0, .slice A1 m1 c1, .slice A2 k2 c2, .slice A3 m3 c3, .slice A4 k4 c4, .int .i64 t0, .int .i64 t1, .int .i64 t2, .int .i64 t3, .int .i64 t4] 36)).alloc (.cells #[.int .i64 s, .int .i64 k] 85)) D (.slice A1 m1 c1) L.secs) := hSe.mono (Nat.le_refl _) (fun p hp => HB0.out.cell (p := p) (Nat.lt_of_lt_of_le hp hD))
  have HM1 := Lib.hid hm1
  have HE : Hid (nodeL L.secs (s, k) = if hasB L.secs s then (if k = 0 then some (L.secs.getD s.toNat (0, 0, 0)).2.1 else if k = 1 then some (L.secs.getD s.toNat (0, 0, 0)).2.2 else none) else none) := rfl
  generalize nodeL L.secs (s, k) = r at *
  rw [hm1] at hs
  clear hr1 hm1 h hSe hPo hm3 hL
  go_enter Try.func52, Try.ntmps52
  go_upto_region 1 with (fail)
  obtain ⟨n0, hn0⟩ : ∃ n, n = w.heap.size := ⟨_, rfl⟩
  obtain ⟨n1, hn1⟩ : ∃ n, n = n0 + 1 := ⟨_, rfl⟩
  rw [← hn0] at HRL HB0 HRE ⊢
  rw [← hn1] at HRE ⊢
  have HN0 : Hid (n0 = w.heap.size ∧ n1 = n0 + 1) := ⟨hn0, hn1⟩
  clear hn0 hn1 hD
  generalize (w.alloc (.cells #[.slice A0 k0 c0, .slice A1 m1 c1, .slice A2 k2 c2, .slice A3 m3 c3, .slice A4 k4 c4, .int .i64 t0, .int .i64 t1, .int .i64 t2, .int .i64 t3, .int .i64 t4] 36)).alloc (.cells #[.int .i64 s, .int .i64 k] 85) = W0 at *
  have f1 := HRL.out.cell 1; have e0 := HRE.out.cell 0; have e1 := HRE.out.cell 1
  simp only [List.getElem?_toArray, List.getElem?_cons_zero, List.getElem?_cons_succ] at f1 e0 e1
  by_cases h0 : s < 0
  · have HE2 : Hid (r = none) := by show _ = _; rw [HE.out]; unfold hasB; rw [decide_eq_false (by omega)]; rfl
    clear HE
    go_wp2_with fail
    go_ret2
    rw [HE2.out]
    exact ⟨rfl, by rw [← HN0.out.1]; exact HB0.out⟩
  by_cases h1 : (m1 : Int) ≤ s
  · have HE2 : Hid (r = none) := by show _ = _; rw [HE.out]; unfold hasB; rw [decide_eq_false (p := s < (L.secs.length : Int)) (by have := HM1.out; omega), Bool.and_false]; rfl
    clear HE
    go_wp2_with fail
    go_ret2
    rw [HE2.out]
    exact ⟨rfl, by rw [← HN0.out.1]; exact HB0.out⟩
  obtain ⟨i, hi⟩ : ∃ i : Nat, s = (i : Int) := ⟨s.toNat, by omega⟩
  subst hi
  have hil : i < L.secs.length := by have := HM1.out; omega
  have HE1 : Hid (r = if k = 0 then some L.secs[i].2.1 else if k = 1 then some L.secs[i].2.2 else none) := by
    show _ = _
    have hge : L.secs.getD i (0, 0, 0) = L.secs[i] := by simp [List.getD, hil]
    have hb : hasB L.secs (i : Int) = true := by unfold hasB; simp; omega
    rw [HE.out, hb]
    simp only [Int.toNat_natCast, hge, if_true]
  obtain ⟨b, o, hA, -, -, q1, q2⟩ := HS.out.at i hil
  subst hA
  obtain ⟨x, hx⟩ : ∃ x, L.secs[i].2.1 = x := ⟨_, rfl⟩
  obtain ⟨y, hy⟩ : ∃ x, L.secs[i].2.2 = x := ⟨_, rfl⟩
  rw [hx] at q1 HE1
  rw [hy] at q2 HE1
  clear hx hy HE hil
  rcases (show k < 0 ∨ k = 0 ∨ k = 1 ∨ 1 < k by omega) with hk | hk | hk | hk
  · have HE2 : Hid (r = none) := by show _ = _; rw [HE1.out, if_neg (by omega), if_neg (by omega)]
    clear HE1
    go_wp2_with fail
    go_ret2
    rw [HE2.out]
    exact ⟨rfl, by rw [← HN0.out.1]; exact HB0.out⟩
  · have HE2 : Hid (r = some x) := by show _ = _; rw [HE1.out, if_pos hk]
    clear HE1
    subst hk
    go_wp2_with fail
    go_ret2
    rw [HE2.out]
    exact ⟨rfl, by rw [← HN0.out.1]; exact HB0.out⟩
  · have HE2 : Hid (r = some y) := by show _ = _; rw [HE1.out, if_neg (by omega), if_pos hk]
    clear HE1
    subst hk
    go_wp2_with fail
    go_ret2
    rw [HE2.out]
    exact ⟨rfl, by rw [← HN0.out.1]; exact HB0.out⟩
  · have HE2 : Hid (r = none) := by show _ = _; rw [HE1.out, if_neg (by omega), if_neg (by omega)]
    clear HE1
    have hk2 : ¬ k < 0 := by omega
    go_wp2_with fail
    go_ret2
    rw [HE2.out]
    exact ⟨rfl, by rw [← HN0.out.1]; exact HB0.out⟩

set_option maxHeartbeats 4000000 in
theorem refEnds_any (w : World) (D : Nat) (v : Value) (L : Lay) (n : Int) (h : LayV w D v L) (hD : D ≤ w.heap.size) (hL : Fits L) :
    Calls Try.prog 55 #[v, .int .i64 n] w fun e w' => ∃ v', e = .returned v' ∧ w'.ownsRow w.heap.size 85 2 v' (endsL L.secs n).length (ecells (endsL L.secs n)) ∧ Below w.heap.size w w' := by
  obtain ⟨A0, k0, c0, A1, m1, c1, A2, k2, c2, A3, m3, c3, A4, k4, c4, t0, t1, t2, t3, t4, rfl, hm1, hm3, hSe, hPo⟩ := h.open_
  have hs := hL.s
  have hb0 := (Below.refl w.heap.size w).alloc (Nat.le_refl _) (.cells #[.slice A0 k0 c0, .slice A1 m1 c1, .slice A2 k2 c2, .slice A3 m3 c3, .slice A4 k4 c4, .int .i64 t0, .int .i64 t1, .int .i64 t2, .int .i64 t3, .int .i64 t4] 36)
  have HB0 := Lib.hid hb0
  have HRL := Lib.hid (Row.new w 36 #[.slice A0 k0 c0, .slice A1 m1 c1, .slice A2 k2 c2, .slice A3 m3 c3, .slice A4 k4 c4, .int .i64 t0, .int .i64 t1, .int .i64 t2, .int .i64 t3, .int .i64 t4])
  have HS : Hid (Secs (w.alloc (.cells #[.slice A0 k0 c0, .slice A1 m1 c1, .slice A2 k2 c2, .slice A3 m3 c3, .slice A4 k4 c4, .int .i64 t0, .int .i64 t1, .int .i64 t2, .int .i64 t3, .int .i64 t4] 36)) D (.slice A1 m1 c1) L.secs) := hSe.mono (Nat.le_refl _) (fun p hp => hb0.cell (p := p) (Nat.lt_of_lt_of_le hp hD))
  have HM1 := Lib.hid hm1
  have HE : Hid (endsL L.secs n = endsTo L.secs n L.secs.length) := rfl
  generalize endsL L.secs n = r at *
  rw [hm1] at hs HE
  have hDW : D ≤ (w.alloc (.cells #[.slice A0 k0 c0, .slice A1 m1 c1, .slice A2 k2 c2, .slice A3 m3 c3, .slice A4 k4 c4, .int .i64 t0, .int .i64 t1, .int .i64 t2, .int .i64 t3, .int .i64 t4] 36)).heap.size := by simp; omega
  clear hm1 hb0 h hSe hPo hm3 hL
  obtain ⟨i4, hi4, hz40, hz41, hz42⟩ := info_parts Try.info85
  go_enter Try.func55, Try.ntmps55
  go_upto_region 1 with (fail)
  obtain ⟨n0, hn0⟩ : ∃ n, n = w.heap.size := ⟨_, rfl⟩
  rw [← hn0] at HRL HB0 ⊢
  have HN0 := Lib.hid hn0
  clear hn0 hD
  generalize w.alloc (.cells #[.slice A0 k0 c0, .slice A1 m1 c1, .slice A2 k2 c2, .slice A3 m3 c3, .slice A4 k4 c4, .int .i64 t0, .int .i64 t1, .int .i64 t2, .int .i64 t3, .int .i64 t4] 36) = W0 at *
  have HF1 : Hid (W0.cell? ⟨n0, 1, none⟩ = some (.slice A1 m1 c1)) := by show _ = _; have := HRL.out.cell 1; simpa using this
  obtain ⟨B1, hB1⟩ : ∃ n, n = W0.heap.size := ⟨_, rfl⟩
  have HB1 := Lib.hid hB1
  have hB2 : B1 ≤ W0.heap.size := by omega
  have HNB : Hid (n0 < B1) := by show n0 < B1; have := HRL.out.lt; omega
  have hDB : D ≤ B1 := by omega
  clear hB1 hDW
  go_wp2_with fail
  go_loopw [5, 6] (fun t k wr => ∃ i : Nat, i ≤ m1 ∧ k = .int .i64 i ∧ Hid (wr.ownsRow B1 85 2 t (endsTo L.secs n i).length (ecells (endsTo L.secs n i)) ∧ Below B1 W0 wr)) (fun _ k _ => m1 - (intOf k).toNat)
  case atStart => exact ⟨0, Nat.zero_le _, rfl, World.ownsRow_nil _ _ _ _, Below.refl _ _⟩
  case round =>
    obtain ⟨i, hi, rfl, HO0⟩ := hrel
    obtain ⟨At, ct, hvt⟩ := own_slice HO0.out.1
    subst hvt
    have f1 : wr.cell? ⟨n0, 1, none⟩ = some (.slice A1 m1 c1) := (HO0.out.2.cell (p := ⟨n0, 1, none⟩) HNB.out).trans HF1.out
    by_cases hlt : i < m1
    · have hil : i < L.secs.length := by have := HM1.out; omega
      obtain ⟨b, o, hA, hbD, -, q1, q2⟩ := HS.out.at i hil
      subst hA
      have HBB : Hid (b < B1) := by show b < B1; omega
      have HS2 : Hid (endsTo L.secs n (i + 1) = endsTo L.secs n i ++ ((if L.secs[i].2.1 = n then [((i : Int), (0 : Int))] else []) ++ (if L.secs[i].2.2 = n then [((i : Int), (1 : Int))] else []))) := by
        show endsTo L.secs n i ++ endsAt L.secs n i = _
        unfold endsAt
        have hge : L.secs.getD i (0, 0, 0) = L.secs[i] := by simp [List.getD, hil]
        rw [hge]
      have hle := endsTo_le L.secs n i
      obtain ⟨x, hx⟩ : ∃ x, L.secs[i].2.1 = x := ⟨_, rfl⟩
      obtain ⟨y, hy⟩ : ∃ x, L.secs[i].2.2 = x := ⟨_, rfl⟩
      rw [hx] at q1 HS2
      rw [hy] at q2 HS2
      clear hx hy hil
      have g1 : wr.cell? ⟨b, o + i * 3 + 1, none⟩ = some (.int .i64 x) := (HO0.out.2.cell (p := ⟨b, o + i * 3 + 1, none⟩) HBB.out).trans q1
      have g2 : wr.cell? ⟨b, o + i * 3 + 2, none⟩ = some (.int .i64 y) := (HO0.out.2.cell (p := ⟨b, o + i * 3 + 2, none⟩) HBB.out).trans q2
      have HY := Lib.hid q2
      clear q1 q2
      obtain ⟨es, hes⟩ : ∃ es, endsTo L.secs n i = es := ⟨_, rfl⟩
      rw [hes] at HO0 HS2 hle ⊢
      clear hes
      by_cases h1 : x = n
      · by_cases h2 : y = n
        · rw [if_pos h1, if_pos h2] at HS2
          have h1s := h1.symm
          have h2s := h2.symm
          subst h1s
          subst h2s
          go_wp2_with (at_builtin; refine wpList_append_own _ rfl (.tmp 22) (.tmp 25) 86 rfl B1 85 i4 (.agg #[.int .i64 0, .int .i64 0]) 2 16 Try.underlying86 hi4 hz40 hz41 hz42 rfl (by decide) _ _ _ rfl (HO0.out.1.alloc _) ⟨wr.heap.size, 0, none⟩ 1 1 [.int .i64 (i : Int), .int .i64 0] rfl rfl (row_new wr 85 _) (by intro u hu; simp at hu; rcases hu with rfl | rfl <;> rfl) (by unfold maxLen; omega) (by omega) (by have := HO0.out.2.size; simp; omega) ?_)
          intro vA wA hown hgrow _
          have HOA : Hid (wA.ownsRow B1 85 2 vA (es.length + 1) (ecells (es ++ [((i : Int), (0 : Int))])) ∧ Below B1 W0 wA) := ⟨by rw [← ecells_app]; exact hown, (HO0.out.2.alloc (by have := HO0.out.2.size; omega) _).grown hgrow (by have := HO0.out.2.size; simp; omega) (fun k hk => (HO0.out.1.lt k hk).1)⟩
          clear hown hgrow
          obtain ⟨Aa, ca, hva⟩ := own_slice HOA.out.1
          subst hva
          clear f1 g2
          have f1A : wA.cell? ⟨n0, 1, none⟩ = some (.slice (some ⟨b, o, none⟩) m1 c1) := (HOA.out.2.cell (p := ⟨n0, 1, none⟩) HNB.out).trans HF1.out
          have g2A : wA.cell? ⟨b, o + i * 3 + 2, none⟩ = some (.int .i64 n) := (HOA.out.2.cell (p := ⟨b, o + i * 3 + 2, none⟩) HBB.out).trans HY.out
          go_wp2_with (at_builtin; refine wpList_append_own _ rfl (.tmp 35) (.tmp 38) 86 rfl B1 85 i4 (.agg #[.int .i64 0, .int .i64 0]) 2 16 Try.underlying86 hi4 hz40 hz41 hz42 rfl (by decide) _ _ _ rfl (HOA.out.1.alloc _) ⟨wA.heap.size, 0, none⟩ 1 1 [.int .i64 (i : Int), .int .i64 1] rfl rfl (row_new wA 85 _) (by intro u hu; simp at hu; rcases hu with rfl | rfl <;> rfl) (by unfold maxLen; omega) (by omega) (by have := HOA.out.2.size; simp; omega) ?_)
          intro vB wB hown hgrow _
          have HOB : Hid (wB.ownsRow B1 85 2 vB (es.length + 1 + 1) (ecells (es ++ ([((i : Int), (0 : Int))] ++ [((i : Int), (1 : Int))]))) ∧ Below B1 W0 wB) := ⟨by rw [← List.append_assoc, ← ecells_app]; exact hown, (HOA.out.2.alloc (by have := HOA.out.2.size; omega) _).grown hgrow (by have := HOA.out.2.size; simp; omega) (fun k hk => (HOA.out.1.lt k hk).1)⟩
          clear hown hgrow
          have HNX : Hid (wB.ownsRow B1 85 2 vB (endsTo L.secs n (i + 1)).length (ecells (endsTo L.secs n (i + 1))) ∧ Below B1 W0 wB) := ⟨by rw [HS2.out, show (es ++ ([((i : Int), (0 : Int))] ++ [((i : Int), (1 : Int))])).length = es.length + 1 + 1 from by simp]; exact HOB.out.1, HOB.out.2⟩
          go_wp2_with fail
          go_roundw
          case rel => exact ⟨i + 1, by omega, by go_num, HNX⟩
          case measure => simp [intOf]; omega
        · rw [if_pos h1, if_neg h2, List.append_nil] at HS2
          have h1s := h1.symm
          subst h1s
          go_wp2_with (at_builtin; refine wpList_append_own _ rfl (.tmp 22) (.tmp 25) 86 rfl B1 85 i4 (.agg #[.int .i64 0, .int .i64 0]) 2 16 Try.underlying86 hi4 hz40 hz41 hz42 rfl (by decide) _ _ _ rfl (HO0.out.1.alloc _) ⟨wr.heap.size, 0, none⟩ 1 1 [.int .i64 (i : Int), .int .i64 0] rfl rfl (row_new wr 85 _) (by intro u hu; simp at hu; rcases hu with rfl | rfl <;> rfl) (by unfold maxLen; omega) (by omega) (by have := HO0.out.2.size; simp; omega) ?_)
          intro vA wA hown hgrow _
          have HOA : Hid (wA.ownsRow B1 85 2 vA (es.length + 1) (ecells (es ++ [((i : Int), (0 : Int))])) ∧ Below B1 W0 wA) := ⟨by rw [← ecells_app]; exact hown, (HO0.out.2.alloc (by have := HO0.out.2.size; omega) _).grown hgrow (by have := HO0.out.2.size; simp; omega) (fun k hk => (HO0.out.1.lt k hk).1)⟩
          clear hown hgrow
          obtain ⟨Aa, ca, hva⟩ := own_slice HOA.out.1
          subst hva
          clear f1 g2
          have f1A : wA.cell? ⟨n0, 1, none⟩ = some (.slice (some ⟨b, o, none⟩) m1 c1) := (HOA.out.2.cell (p := ⟨n0, 1, none⟩) HNB.out).trans HF1.out
          have g2A : wA.cell? ⟨b, o + i * 3 + 2, none⟩ = some (.int .i64 y) := (HOA.out.2.cell (p := ⟨b, o + i * 3 + 2, none⟩) HBB.out).trans HY.out
          have HNX : Hid (wA.ownsRow B1 85 2 (.slice Aa (es.length + 1) ca) (endsTo L.secs n (i + 1)).length (ecells (endsTo L.secs n (i + 1))) ∧ Below B1 W0 wA) := ⟨by rw [HS2.out, show (es ++ [((i : Int), (0 : Int))]).length = es.length + 1 from by simp]; exact HOA.out.1, HOA.out.2⟩
          go_wp2_with fail
          go_roundw
          case rel => exact ⟨i + 1, by omega, by go_num, HNX⟩
          case measure => simp [intOf]; omega
      · by_cases h2 : y = n
        · rw [if_neg h1, if_pos h2, List.nil_append] at HS2
          have h2s := h2.symm
          subst h2s
          go_wp2_with (at_builtin; refine wpList_append_own _ rfl (.tmp 35) (.tmp 38) 86 rfl B1 85 i4 (.agg #[.int .i64 0, .int .i64 0]) 2 16 Try.underlying86 hi4 hz40 hz41 hz42 rfl (by decide) _ _ _ rfl (HO0.out.1.alloc _) ⟨wr.heap.size, 0, none⟩ 1 1 [.int .i64 (i : Int), .int .i64 1] rfl rfl (row_new wr 85 _) (by intro u hu; simp at hu; rcases hu with rfl | rfl <;> rfl) (by unfold maxLen; omega) (by omega) (by have := HO0.out.2.size; simp; omega) ?_)
          intro vB wB hown hgrow _
          have HOB : Hid (wB.ownsRow B1 85 2 vB (es.length + 1) (ecells (es ++ [((i : Int), (1 : Int))])) ∧ Below B1 W0 wB) := ⟨by rw [← ecells_app]; exact hown, (HO0.out.2.alloc (by have := HO0.out.2.size; omega) _).grown hgrow (by have := HO0.out.2.size; simp; omega) (fun k hk => (HO0.out.1.lt k hk).1)⟩
          clear hown hgrow
          have HNX : Hid (wB.ownsRow B1 85 2 vB (endsTo L.secs n (i + 1)).length (ecells (endsTo L.secs n (i + 1))) ∧ Below B1 W0 wB) := ⟨by rw [HS2.out, show (es ++ [((i : Int), (1 : Int))]).length = es.length + 1 from by simp]; exact HOB.out.1, HOB.out.2⟩
          go_wp2_with fail
          go_roundw
          case rel => exact ⟨i + 1, by omega, by go_num, HNX⟩
          case measure => simp [intOf]; omega
        · rw [if_neg h1, if_neg h2, List.nil_append] at HS2
          have HNX : Hid (wr.ownsRow B1 85 2 (.slice At es.length ct) (endsTo L.secs n (i + 1)).length (ecells (endsTo L.secs n (i + 1))) ∧ Below B1 W0 wr) := ⟨by rw [HS2.out]; exact by rw [List.append_nil]; exact HO0.out.1, HO0.out.2⟩
          go_wp2_with fail
          go_roundw
          case rel => exact ⟨i + 1, by omega, by go_num, HNX⟩
          case measure => simp [intOf]; omega
    · have HIE : Hid (i = m1) := by show _ = _; omega
      go_wp2_with fail
      go_ret
      have h1 := HIE.out
      subst h1
      rw [HE.out, ← HN0.out]
      exact ⟨_, rfl, own_base HO0.out.1 (by have := HNB.out; omega), HB0.out.trans (HO0.out.2.mono (by have := HNB.out; omega))⟩

end Go.Proofs.Ytifcgkpannlnnaa
