/- Contracts: the document's node, Ends, Point. Contracts: the document's node, Ends. Contracts: the document's one; Has. Pure: the one other end, as the document finds it. Contracts: the document's Around. -/
import Derived.Test.YtagkgejdammflaaGreatGB
namespace Go.Proofs.YtagkgejdammflaaGreat
open Go.RowKit Fl
set_option maxRecDepth 100000

theorem LayV.open_ {w : World} {D : Nat} {v : Value} {L : Lay} (h : LayV w D v L) : ∃ A0 k0 c0 A1 m1 c1 A2 k2 c2 A3 m3 c3 A4 k4 c4 t0 t1 t2 t3 t4, v = .agg #[.slice A0 k0 c0, .slice A1 m1 c1, .slice A2 k2 c2, .slice A3 m3 c3, .slice A4 k4 c4, .int .i64 t0, .int .i64 t1, .int .i64 t2, .int .i64 t3, .int .i64 t4] ∧ L.secs.length = m1 ∧ L.points.length = m3 ∧ Secs w D (.slice A1 m1 c1) L.secs ∧ Pts w D (.slice A3 m3 c3) L.points := by
  obtain ⟨vN, vS, vP, vQ, vR, ps, rfl, hd⟩ := h
  obtain ⟨A1, c1, hv1, -⟩ := id hd.s
  obtain ⟨A3, c3, hv3, -⟩ := id hd.q
  obtain ⟨vs, ⟨A2, c2, hv2, -, -⟩, -, -⟩ := id hd.p
  obtain ⟨A0, c0, hv0, -⟩ := id hd.n
  obtain ⟨vs4, ⟨A4, c4, hv4, -, -⟩, -, -⟩ := id hd.r
  subst hv1 hv3 hv2 hv0 hv4
  exact ⟨A0, _, c0, A1, _, c1, A2, _, c2, A3, _, c3, A4, _, c4, _, _, _, _, _, rfl, rfl, rfl, hd.s, hd.q⟩

theorem LayV.keep {w w' : World} {B D : Nat} {v : Value} {L : Lay} (h : LayV w D v L) (hb : Below B w w') (hD : D ≤ B) : LayV w' D v L := h.mono (Nat.le_refl _) fun p hp => hb.cell (p := p) (Nat.lt_of_lt_of_le hp hD)

set_option maxHeartbeats 2000000 in
theorem refPoint_any (w : World) (D : Nat) (v : Value) (L : Lay) (n : Int) (h : LayV w D v L) (hD : D ≤ w.heap.size) (hL : Fits L) :
    Calls Tryz.prog 29 #[v, .int .i64 n] w fun e w' => e = .returned (.int .i64 (pointL L.points n)) ∧ Below w.heap.size w w' := by
  obtain ⟨A0, k0, c0, A1, m1, c1, A2, k2, c2, A3, m3, c3, A4, k4, c4, t0, t1, t2, t3, t4, rfl, hm1, hm3, hSe, hPo⟩ := h.open_
  have hq := hL.q
  have hb0 := (Below.refl w.heap.size w).alloc (Nat.le_refl _) (.cells #[.slice A0 k0 c0, .slice A1 m1 c1, .slice A2 k2 c2, .slice A3 m3 c3, .slice A4 k4 c4, .int .i64 t0, .int .i64 t1, .int .i64 t2, .int .i64 t3, .int .i64 t4] 33)
  have HB0 := Lib.hid hb0
  have HRL := Lib.hid (Row.new w 33 #[.slice A0 k0 c0, .slice A1 m1 c1, .slice A2 k2 c2, .slice A3 m3 c3, .slice A4 k4 c4, .int .i64 t0, .int .i64 t1, .int .i64 t2, .int .i64 t3, .int .i64 t4])
  have HP : Hid (Pts (w.alloc (.cells #[.slice A0 k0 c0, .slice A1 m1 c1, .slice A2 k2 c2, .slice A3 m3 c3, .slice A4 k4 c4, .int .i64 t0, .int .i64 t1, .int .i64 t2, .int .i64 t3, .int .i64 t4] 33)) D (.slice A3 m3 c3) L.points) := hPo.mono (Nat.le_refl _) (fun p hp => hb0.cell (p := p) (Nat.lt_of_lt_of_le hp hD))
  have HM3 := Lib.hid hm3
  obtain ⟨r, hr⟩ : ∃ r, pointL L.points n = r := ⟨_, rfl⟩
  rw [hr]
  have HR := Lib.hid hr
  rw [hm3] at hq
  clear hr hm3 hb0 h hSe hPo hm1 hL
  go_enter Tryz.func29, Tryz.ntmps29
  go_upto_region 1 with (fail)
  obtain ⟨n0, hn0⟩ : ∃ n, n = w.heap.size := ⟨_, rfl⟩
  rw [← hn0] at HRL HB0 ⊢
  have HN0 := Lib.hid hn0
  clear hn0 hD
  generalize w.alloc (.cells #[.slice A0 k0 c0, .slice A1 m1 c1, .slice A2 k2 c2, .slice A3 m3 c3, .slice A4 k4 c4, .int .i64 t0, .int .i64 t1, .int .i64 t2, .int .i64 t3, .int .i64 t4] 33) = W0 at *
  have f3 := HRL.out.cell 3
  simp only [List.getElem?_toArray, List.getElem?_cons_zero, List.getElem?_cons_succ] at f3
  go_wp2_with fail
  go_loop [5] (fun k => ∃ i : Nat, i ≤ m3 ∧ k = .int .i64 i ∧ Hid (∀ j (hj : j < L.points.length), j < i → L.points[j].1 ≠ n)) (fun k => m3 - (intOf k).toNat)
  case atStart => exact ⟨0, Nat.zero_le _, rfl, fun j _ hj => absurd hj (by omega)⟩
  case round =>
    obtain ⟨i, hi, rfl, HJ⟩ := hrel
    by_cases hlt : i < m3
    · have him : i < L.points.length := by have := HM3.out; omega
      obtain ⟨b, o, hA, -, q0, -, -, -⟩ := HP.out.at i him
      subst hA
      have HQ1 : Hid (L.points[i].1 = n → r = (i : Int)) := fun e => by rw [← HR.out]; exact pointL_at him e HJ.out
      have HQ2 : Hid (L.points[i].1 ≠ n → ∀ j (hj : j < L.points.length), j < i + 1 → L.points[j].1 ≠ n) := fun e j hj hji => by
        rcases Nat.lt_or_ge j i with c | c
        · exact HJ.out j hj c
        · obtain rfl : j = i := by omega
          exact e
      obtain ⟨z, hz⟩ : ∃ z, L.points[i].1 = z := ⟨_, rfl⟩
      rw [hz] at q0 HQ1 HQ2
      clear hz
      by_cases he : z = n
      · have HF := Lib.hid (HQ1.out he)
        subst he
        go_wp2_with fail
        go_ret
        exact ⟨ret_int HF.out.symm, by rw [← HN0.out]; exact HB0.out⟩
      · have HF := Lib.hid (HQ2.out he)
        go_wp2_with fail
        go_round
        case rel => exact ⟨i + 1, by omega, by go_num, HF⟩
        case measure => simp [intOf]; omega
    · have HF : Hid (r = -1) := by
        show _ = _
        rw [← HR.out]
        exact pointL_none fun j hj => HJ.out j hj (by have := HM3.out; omega)
      go_wp2_with fail
      go_ret
      exact ⟨ret_int HF.out.symm, by rw [← HN0.out]; exact HB0.out⟩

end Go.Proofs.YtagkgejdammflaaGreat

namespace Go.Proofs.YtagkgejdammflaaGreat
open Go.RowKit Fl
set_option maxRecDepth 100000

set_option maxHeartbeats 2000000 in
theorem refNode_any (w : World) (D : Nat) (v : Value) (L : Lay) (s k : Int) (h : LayV w D v L) (hD : D ≤ w.heap.size) (hL : Fits L) :
    Calls Tryz.prog 28 #[v, .agg #[.int .i64 s, .int .i64 k]] w (RetNode (nodeL L.secs (s, k)) w) := by
  obtain ⟨A0, k0, c0, A1, m1, c1, A2, k2, c2, A3, m3, c3, A4, k4, c4, t0, t1, t2, t3, t4, rfl, hm1, hm3, hSe, hPo⟩ := h.open_
  have hs := hL.s
  have HB0 : Hid (Below w.heap.size w ((w.alloc (.cells #[.slice A0 k0 c0, .slice A1 m1 c1, .slice A2 k2 c2, .slice A3 m3 c3, .slice A4 k4 c4, .int .i64 t0, .int .i64 t1, .int .i64 t2, .int .i64 t3, .int .i64 t4] 33)).alloc (.cells #[.int .i64 s, .int .i64 k] 60))) := below2 w _ _
  have HRL := Lib.hid ((Row.new w 33 #[.slice A0 k0 c0, .slice A1 m1 c1, .slice A2 k2 c2, .slice A3 m3 c3, .slice A4 k4 c4, .int .i64 t0, .int .i64 t1, .int .i64 t2, .int .i64 t3, .int .i64 t4]).alloc (.cells #[.int .i64 s, .int .i64 k] 60))
  have hr1 := Row.new (w.alloc (.cells #[.slice A0 k0 c0, .slice A1 m1 c1, .slice A2 k2 c2, .slice A3 m3 c3, .slice A4 k4 c4, .int .i64 t0, .int .i64 t1, .int .i64 t2, .int .i64 t3, .int .i64 t4] 33)) 60 #[.int .i64 s, .int .i64 k]
  rw [World.size_alloc] at hr1
  have HRE := Lib.hid hr1
  have HS : Hid (Secs ((w.alloc (.cells #[.slice A0 k0 c0, .slice A1 m1 c1, .slice A2 k2 c2, .slice A3 m3 c3, .slice A4 k4 c4, .int .i64 t0, .int .i64 t1, .int .i64 t2, .int .i64 t3, .int .i64 t4] 33)).alloc (.cells #[.int .i64 s, .int .i64 k] 60)) D (.slice A1 m1 c1) L.secs) := hSe.mono (Nat.le_refl _) (fun p hp => HB0.out.cell (p := p) (Nat.lt_of_lt_of_le hp hD))
  have HM1 := Lib.hid hm1
  have HE : Hid (nodeL L.secs (s, k) = if hasB L.secs s then (if k = 0 then some (L.secs.getD s.toNat (0, 0, 0)).2.1 else if k = 1 then some (L.secs.getD s.toNat (0, 0, 0)).2.2 else none) else none) := rfl
  generalize nodeL L.secs (s, k) = r at *
  rw [hm1] at hs
  clear hr1 hm1 h hSe hPo hm3 hL
  go_enter Tryz.func28, Tryz.ntmps28
  go_upto_region 1 with (fail)
  obtain ⟨n0, hn0⟩ : ∃ n, n = w.heap.size := ⟨_, rfl⟩
  obtain ⟨n1, hn1⟩ : ∃ n, n = n0 + 1 := ⟨_, rfl⟩
  rw [← hn0] at HRL HB0 HRE ⊢
  rw [← hn1] at HRE ⊢
  have HN0 : Hid (n0 = w.heap.size ∧ n1 = n0 + 1) := ⟨hn0, hn1⟩
  clear hn0 hn1 hD
  generalize (w.alloc (.cells #[.slice A0 k0 c0, .slice A1 m1 c1, .slice A2 k2 c2, .slice A3 m3 c3, .slice A4 k4 c4, .int .i64 t0, .int .i64 t1, .int .i64 t2, .int .i64 t3, .int .i64 t4] 33)).alloc (.cells #[.int .i64 s, .int .i64 k] 60) = W0 at *
  have f1 := HRL.out.cell 1; have e0 := HRE.out.cell 0; have e1 := HRE.out.cell 1
  simp only [List.getElem?_toArray, List.getElem?_cons_zero, List.getElem?_cons_succ] at f1 e0 e1
  by_cases h0 : s < 0
  · have HE2 : Hid (r = none) := by show _ = _; rw [HE.out]; unfold hasB; rw [decide_eq_false (by omega)]; rfl
    clear HE
    go_wp2_with fail
    go_ret2
    rw [HE2.out]
    exact ⟨rfl, by rw [← HN0.out.1]; exact HB0.out⟩
  by_cases h1 : (m1 : Int) ≤ s
  · have HE2 : Hid (r = none) := by show _ = _; rw [HE.out]; unfold hasB; rw [decide_eq_false (p := s < (L.secs.length : Int)) (by have := HM1.out; omega), Bool.and_false]; rfl
    clear HE
    go_wp2_with fail
    go_ret2
    rw [HE2.out]
    exact ⟨rfl, by rw [← HN0.out.1]; exact HB0.out⟩
  obtain ⟨i, hi⟩ : ∃ i : Nat, s = (i : Int) := ⟨s.toNat, by omega⟩
  subst hi
  have hil : i < L.secs.length := by have := HM1.out; omega
  have HE1 : Hid (r = if k = 0 then some L.secs[i].2.1 else if k = 1 then some L.secs[i].2.2 else none) := by
    show _ = _
    have hge : L.secs.getD i (0, 0, 0) = L.secs[i] := by simp [List.getD, hil]
    have hb : hasB L.secs (i : Int) = true := by unfold hasB; simp; omega
    rw [HE.out, hb]
    simp only [Int.toNat_natCast, hge, if_true]
  obtain ⟨b, o, hA, -, -, q1, q2⟩ := HS.out.at i hil
  subst hA
  obtain ⟨x, hx⟩ : ∃ x, L.secs[i].2.1 = x := ⟨_, rfl⟩
  obtain ⟨y, hy⟩ : ∃ x, L.secs[i].2.2 = x := ⟨_, rfl⟩
  rw [hx] at q1 HE1
  rw [hy] at q2 HE1
  clear hx hy HE hil
  rcases (show k < 0 ∨ k = 0 ∨ k = 1 ∨ 1 < k by omega) with hk | hk | hk | hk
  · have HE2 : Hid (r = none) := by show _ = _; rw [HE1.out, if_neg (by omega), if_neg (by omega)]
    clear HE1
    go_wp2_with fail
    go_ret2
    rw [HE2.out]
    exact ⟨rfl, by rw [← HN0.out.1]; exact HB0.out⟩
  · have HE2 : Hid (r = some x) := by show _ = _; rw [HE1.out, if_pos hk]
    clear HE1
    subst hk
    go_wp2_with fail
    go_ret2
    rw [HE2.out]
    exact ⟨rfl, by rw [← HN0.out.1]; exact HB0.out⟩
  · have HE2 : Hid (r = some y) := by show _ = _; rw [HE1.out, if_neg (by omega), if_pos hk]
    clear HE1
    subst hk
    go_wp2_with fail
    go_ret2
    rw [HE2.out]
    exact ⟨rfl, by rw [← HN0.out.1]; exact HB0.out⟩
  · have HE2 : Hid (r = none) := by show _ = _; rw [HE1.out, if_neg (by omega), if_neg (by omega)]
    clear HE1
    have hk2 : ¬ k < 0 := by omega
    go_wp2_with fail
    go_ret2
    rw [HE2.out]
    exact ⟨rfl, by rw [← HN0.out.1]; exact HB0.out⟩

set_option maxHeartbeats 4000000 in
theorem refEnds_any (w : World) (D : Nat) (v : Value) (L : Lay) (n : Int) (h : LayV w D v L) (hD : D ≤ w.heap.size) (hL : Fits L) :
    Calls Tryz.prog 31 #[v, .int .i64 n] w fun e w' => ∃ v', e = .returned v' ∧ w'.ownsRow w.heap.size 60 2 v' (endsL L.secs n).length (ecells (endsL L.secs n)) ∧ Below w.heap.size w w' := by
  obtain ⟨A0, k0, c0, A1, m1, c1, A2, k2, c2, A3, m3, c3, A4, k4, c4, t0, t1, t2, t3, t4, rfl, hm1, hm3, hSe, hPo⟩ := h.open_
  have hs := hL.s
  have hb0 := (Below.refl w.heap.size w).alloc (Nat.le_refl _) (.cells #[.slice A0 k0 c0, .slice A1 m1 c1, .slice A2 k2 c2, .slice A3 m3 c3, .slice A4 k4 c4, .int .i64 t0, .int .i64 t1, .int .i64 t2, .int .i64 t3, .int .i64 t4] 33)
  have HB0 := Lib.hid hb0
  have HRL := Lib.hid (Row.new w 33 #[.slice A0 k0 c0, .slice A1 m1 c1, .slice A2 k2 c2, .slice A3 m3 c3, .slice A4 k4 c4, .int .i64 t0, .int .i64 t1, .int .i64 t2, .int .i64 t3, .int .i64 t4])
  have HS : Hid (Secs (w.alloc (.cells #[.slice A0 k0 c0, .slice A1 m1 c1, .slice A2 k2 c2, .slice A3 m3 c3, .slice A4 k4 c4, .int .i64 t0, .int .i64 t1, .int .i64 t2, .int .i64 t3, .int .i64 t4] 33)) D (.slice A1 m1 c1) L.secs) := hSe.mono (Nat.le_refl _) (fun p hp => hb0.cell (p := p) (Nat.lt_of_lt_of_le hp hD))
  have HM1 := Lib.hid hm1
  have HE : Hid (endsL L.secs n = endsTo L.secs n L.secs.length) := rfl
  generalize endsL L.secs n = r at *
  rw [hm1] at hs HE
  have hDW : D ≤ (w.alloc (.cells #[.slice A0 k0 c0, .slice A1 m1 c1, .slice A2 k2 c2, .slice A3 m3 c3, .slice A4 k4 c4, .int .i64 t0, .int .i64 t1, .int .i64 t2, .int .i64 t3, .int .i64 t4] 33)).heap.size := by simp; omega
  clear hm1 hb0 h hSe hPo hm3 hL
  obtain ⟨i4, hi4, hz40, hz41, hz42⟩ := info_parts Tryz.info60
  go_enter Tryz.func31, Tryz.ntmps31
  go_upto_region 1 with (fail)
  obtain ⟨n0, hn0⟩ : ∃ n, n = w.heap.size := ⟨_, rfl⟩
  rw [← hn0] at HRL HB0 ⊢
  have HN0 := Lib.hid hn0
  clear hn0 hD
  generalize w.alloc (.cells #[.slice A0 k0 c0, .slice A1 m1 c1, .slice A2 k2 c2, .slice A3 m3 c3, .slice A4 k4 c4, .int .i64 t0, .int .i64 t1, .int .i64 t2, .int .i64 t3, .int .i64 t4] 33) = W0 at *
  have HF1 : Hid (W0.cell? ⟨n0, 1, none⟩ = some (.slice A1 m1 c1)) := by show _ = _; have := HRL.out.cell 1; simpa using this
  obtain ⟨B1, hB1⟩ : ∃ n, n = W0.heap.size := ⟨_, rfl⟩
  have HB1 := Lib.hid hB1
  have hB2 : B1 ≤ W0.heap.size := by omega
  have HNB : Hid (n0 < B1) := by show n0 < B1; have := HRL.out.lt; omega
  have hDB : D ≤ B1 := by omega
  clear hB1 hDW
  go_wp2_with fail
  go_loopw [5, 6] (fun t k wr => ∃ i : Nat, i ≤ m1 ∧ k = .int .i64 i ∧ Hid (wr.ownsRow B1 60 2 t (endsTo L.secs n i).length (ecells (endsTo L.secs n i)) ∧ Below B1 W0 wr)) (fun _ k _ => m1 - (intOf k).toNat)
  case atStart => exact ⟨0, Nat.zero_le _, rfl, World.ownsRow_nil _ _ _ _, Below.refl _ _⟩
  case round =>
    obtain ⟨i, hi, rfl, HO0⟩ := hrel
    obtain ⟨At, ct, hvt⟩ := own_slice HO0.out.1
    subst hvt
    have f1 : wr.cell? ⟨n0, 1, none⟩ = some (.slice A1 m1 c1) := (HO0.out.2.cell (p := ⟨n0, 1, none⟩) HNB.out).trans HF1.out
    by_cases hlt : i < m1
    · have hil : i < L.secs.length := by have := HM1.out; omega
      obtain ⟨b, o, hA, hbD, -, q1, q2⟩ := HS.out.at i hil
      subst hA
      have HBB : Hid (b < B1) := by show b < B1; omega
      have HS2 : Hid (endsTo L.secs n (i + 1) = endsTo L.secs n i ++ ((if L.secs[i].2.1 = n then [((i : Int), (0 : Int))] else []) ++ (if L.secs[i].2.2 = n then [((i : Int), (1 : Int))] else []))) := by
        show endsTo L.secs n i ++ endsAt L.secs n i = _
        unfold endsAt
        have hge : L.secs.getD i (0, 0, 0) = L.secs[i] := by simp [List.getD, hil]
        rw [hge]
      have hle := endsTo_le L.secs n i
      obtain ⟨x, hx⟩ : ∃ x, L.secs[i].2.1 = x := ⟨_, rfl⟩
      obtain ⟨y, hy⟩ : ∃ x, L.secs[i].2.2 = x := ⟨_, rfl⟩
      rw [hx] at q1 HS2
      rw [hy] at q2 HS2
      clear hx hy hil
      have g1 : wr.cell? ⟨b, o + i * 3 + 1, none⟩ = some (.int .i64 x) := (HO0.out.2.cell (p := ⟨b, o + i * 3 + 1, none⟩) HBB.out).trans q1
      have g2 : wr.cell? ⟨b, o + i * 3 + 2, none⟩ = some (.int .i64 y) := (HO0.out.2.cell (p := ⟨b, o + i * 3 + 2, none⟩) HBB.out).trans q2
      have HY := Lib.hid q2
      clear q1 q2
      obtain ⟨es, hes⟩ : ∃ es, endsTo L.secs n i = es := ⟨_, rfl⟩
      rw [hes] at HO0 HS2 hle ⊢
      clear hes
      by_cases h1 : x = n
      · by_cases h2 : y = n
        · rw [if_pos h1, if_pos h2] at HS2
          have h1s := h1.symm
          have h2s := h2.symm
          subst h1s
          subst h2s
          go_wp2_with (at_builtin; refine wpList_append_own _ rfl (.tmp 22) (.tmp 25) 61 rfl B1 60 i4 (.agg #[.int .i64 0, .int .i64 0]) 2 16 Tryz.underlying61 hi4 hz40 hz41 hz42 rfl (by decide) _ _ _ rfl (HO0.out.1.alloc _) ⟨wr.heap.size, 0, none⟩ 1 1 [.int .i64 (i : Int), .int .i64 0] rfl rfl (row_new wr 60 _) (by intro u hu; simp at hu; rcases hu with rfl | rfl <;> rfl) (by unfold maxLen; omega) (by omega) (by have := HO0.out.2.size; simp; omega) ?_)
          intro vA wA hown hgrow _
          have HOA : Hid (wA.ownsRow B1 60 2 vA (es.length + 1) (ecells (es ++ [((i : Int), (0 : Int))])) ∧ Below B1 W0 wA) := ⟨by rw [← ecells_app]; exact hown, (HO0.out.2.alloc (by have := HO0.out.2.size; omega) _).grown hgrow (by have := HO0.out.2.size; simp; omega) (fun k hk => (HO0.out.1.lt k hk).1)⟩
          clear hown hgrow
          obtain ⟨Aa, ca, hva⟩ := own_slice HOA.out.1
          subst hva
          clear f1 g2
          have f1A : wA.cell? ⟨n0, 1, none⟩ = some (.slice (some ⟨b, o, none⟩) m1 c1) := (HOA.out.2.cell (p := ⟨n0, 1, none⟩) HNB.out).trans HF1.out
          have g2A : wA.cell? ⟨b, o + i * 3 + 2, none⟩ = some (.int .i64 n) := (HOA.out.2.cell (p := ⟨b, o + i * 3 + 2, none⟩) HBB.out).trans HY.out
          go_wp2_with (at_builtin; refine wpList_append_own _ rfl (.tmp 35) (.tmp 38) 61 rfl B1 60 i4 (.agg #[.int .i64 0, .int .i64 0]) 2 16 Tryz.underlying61 hi4 hz40 hz41 hz42 rfl (by decide) _ _ _ rfl (HOA.out.1.alloc _) ⟨wA.heap.size, 0, none⟩ 1 1 [.int .i64 (i : Int), .int .i64 1] rfl rfl (row_new wA 60 _) (by intro u hu; simp at hu; rcases hu with rfl | rfl <;> rfl) (by unfold maxLen; omega) (by omega) (by have := HOA.out.2.size; simp; omega) ?_)
          intro vB wB hown hgrow _
          have HOB : Hid (wB.ownsRow B1 60 2 vB (es.length + 1 + 1) (ecells (es ++ ([((i : Int), (0 : Int))] ++ [((i : Int), (1 : Int))]))) ∧ Below B1 W0 wB) := ⟨by rw [← List.append_assoc, ← ecells_app]; exact hown, (HOA.out.2.alloc (by have := HOA.out.2.size; omega) _).grown hgrow (by have := HOA.out.2.size; simp; omega) (fun k hk => (HOA.out.1.lt k hk).1)⟩
          clear hown hgrow
          have HNX : Hid (wB.ownsRow B1 60 2 vB (endsTo L.secs n (i + 1)).length (ecells (endsTo L.secs n (i + 1))) ∧ Below B1 W0 wB) := ⟨by rw [HS2.out, show (es ++ ([((i : Int), (0 : Int))] ++ [((i : Int), (1 : Int))])).length = es.length + 1 + 1 from by simp]; exact HOB.out.1, HOB.out.2⟩
          go_wp2_with fail
          go_roundw
          case rel => exact ⟨i + 1, by omega, by go_num, HNX⟩
          case measure => simp [intOf]; omega
        · rw [if_pos h1, if_neg h2, List.append_nil] at HS2
          have h1s := h1.symm
          subst h1s
          go_wp2_with (at_builtin; refine wpList_append_own _ rfl (.tmp 22) (.tmp 25) 61 rfl B1 60 i4 (.agg #[.int .i64 0, .int .i64 0]) 2 16 Tryz.underlying61 hi4 hz40 hz41 hz42 rfl (by decide) _ _ _ rfl (HO0.out.1.alloc _) ⟨wr.heap.size, 0, none⟩ 1 1 [.int .i64 (i : Int), .int .i64 0] rfl rfl (row_new wr 60 _) (by intro u hu; simp at hu; rcases hu with rfl | rfl <;> rfl) (by unfold maxLen; omega) (by omega) (by have := HO0.out.2.size; simp; omega) ?_)
          intro vA wA hown hgrow _
          have HOA : Hid (wA.ownsRow B1 60 2 vA (es.length + 1) (ecells (es ++ [((i : Int), (0 : Int))])) ∧ Below B1 W0 wA) := ⟨by rw [← ecells_app]; exact hown, (HO0.out.2.alloc (by have := HO0.out.2.size; omega) _).grown hgrow (by have := HO0.out.2.size; simp; omega) (fun k hk => (HO0.out.1.lt k hk).1)⟩
          clear hown hgrow
          obtain ⟨Aa, ca, hva⟩ := own_slice HOA.out.1
          subst hva
          clear f1 g2
          have f1A : wA.cell? ⟨n0, 1, none⟩ = some (.slice (some ⟨b, o, none⟩) m1 c1) := (HOA.out.2.cell (p := ⟨n0, 1, none⟩) HNB.out).trans HF1.out
          have g2A : wA.cell? ⟨b, o + i * 3 + 2, none⟩ = some (.int .i64 y) := (HOA.out.2.cell (p := ⟨b, o + i * 3 + 2, none⟩) HBB.out).trans HY.out
          have HNX : Hid (wA.ownsRow B1 60 2 (.slice Aa (es.length + 1) ca) (endsTo L.secs n (i + 1)).length (ecells (endsTo L.secs n (i + 1))) ∧ Below B1 W0 wA) := ⟨by rw [HS2.out, show (es ++ [((i : Int), (0 : Int))]).length = es.length + 1 from by simp]; exact HOA.out.1, HOA.out.2⟩
          go_wp2_with fail
          go_roundw
          case rel => exact ⟨i + 1, by omega, by go_num, HNX⟩
          case measure => simp [intOf]; omega
      · by_cases h2 : y = n
        · rw [if_neg h1, if_pos h2, List.nil_append] at HS2
          have h2s := h2.symm
          subst h2s
          go_wp2_with (at_builtin; refine wpList_append_own _ rfl (.tmp 35) (.tmp 38) 61 rfl B1 60 i4 (.agg #[.int .i64 0, .int .i64 0]) 2 16 Tryz.underlying61 hi4 hz40 hz41 hz42 rfl (by decide) _ _ _ rfl (HO0.out.1.alloc _) ⟨wr.heap.size, 0, none⟩ 1 1 [.int .i64 (i : Int), .int .i64 1] rfl rfl (row_new wr 60 _) (by intro u hu; simp at hu; rcases hu with rfl | rfl <;> rfl) (by unfold maxLen; omega) (by omega) (by have := HO0.out.2.size; simp; omega) ?_)
          intro vB wB hown hgrow _
          have HOB : Hid (wB.ownsRow B1 60 2 vB (es.length + 1) (ecells (es ++ [((i : Int), (1 : Int))])) ∧ Below B1 W0 wB) := ⟨by rw [← ecells_app]; exact hown, (HO0.out.2.alloc (by have := HO0.out.2.size; omega) _).grown hgrow (by have := HO0.out.2.size; simp; omega) (fun k hk => (HO0.out.1.lt k hk).1)⟩
          clear hown hgrow
          have HNX : Hid (wB.ownsRow B1 60 2 vB (endsTo L.secs n (i + 1)).length (ecells (endsTo L.secs n (i + 1))) ∧ Below B1 W0 wB) := ⟨by rw [HS2.out, show (es ++ [((i : Int), (1 : Int))]).length = es.length + 1 from by simp]; exact HOB.out.1, HOB.out.2⟩
          go_wp2_with fail
          go_roundw
          case rel => exact ⟨i + 1, by omega, by go_num, HNX⟩
          case measure => simp [intOf]; omega
        · rw [if_neg h1, if_neg h2, List.nil_append] at HS2
          have HNX : Hid (wr.ownsRow B1 60 2 (.slice At es.length ct) (endsTo L.secs n (i + 1)).length (ecells (endsTo L.secs n (i + 1))) ∧ Below B1 W0 wr) := ⟨by rw [HS2.out]; exact by rw [List.append_nil]; exact HO0.out.1, HO0.out.2⟩
          go_wp2_with fail
          go_roundw
          case rel => exact ⟨i + 1, by omega, by go_num, HNX⟩
          case measure => simp [intOf]; omega
    · have HIE : Hid (i = m1) := by show _ = _; omega
      go_wp2_with fail
      go_ret
      have h1 := HIE.out
      subst h1
      rw [HE.out, ← HN0.out]
      exact ⟨_, rfl, own_base HO0.out.1 (by have := HNB.out; omega), HB0.out.trans (HO0.out.2.mono (by have := HNB.out; omega))⟩

end Go.Proofs.YtagkgejdammflaaGreat

namespace Go.Proofs.YtagkgejdammflaaGreat
open Go.RowKit Fl
set_option maxRecDepth 100000

theorem endsAt_fst (ss : List (Int × Int × Int)) (n : Int) (i : Nat) : ∀ e ∈ endsAt ss n i, e.1 = (i : Int) := by
  intro e he
  unfold endsAt at he
  rcases List.mem_append.1 he with h | h
  · split at h
    · rw [List.mem_singleton] at h; rw [h]
    · simp at h
  · split at h
    · rw [List.mem_singleton] at h; rw [h]
    · simp at h

theorem endsTo_filter (ss : List (Int × Int × Int)) (n s : Int) : ∀ k, (endsTo ss n k).filter (fun e => decide (e.1 = s)) = if 0 ≤ s ∧ s < (k : Int) then endsAt ss n s.toNat else []
  | 0 => by rw [if_neg (by omega)]; rfl
  | k + 1 => by
    rw [endsTo, List.filter_append, endsTo_filter ss n s k]
    by_cases h : s = (k : Int)
    · subst h
      rw [if_neg (by omega), if_pos (by omega), List.nil_append, Int.toNat_natCast]
      rw [List.filter_eq_self]
      intro e he
      simpa using endsAt_fst ss n k e he
    · have h2 : (endsAt ss n k).filter (fun e => decide (e.1 = s)) = [] := by
        rw [List.filter_eq_nil_iff]
        intro e he
        have := endsAt_fst ss n k e he
        simp; omega
      rw [h2, List.append_nil]
      by_cases h3 : 0 ≤ s ∧ s < (k : Int)
      · rw [if_pos h3, if_pos (by omega)]
      · rw [if_neg h3, if_neg (by omega)]

theorem oneL_eq (ss : List (Int × Int × Int)) (s n : Int) : oneL ss s n = ((endsL ss n).filter (fun e => decide (e.1 = s))).take 1 := by
  unfold endsL oneL endsOfL hasB
  rw [endsTo_filter]
  by_cases h : 0 ≤ s ∧ s < (ss.length : Int)
  · rw [if_pos h, if_pos (by simp; exact h)]
  · rw [if_neg h, if_neg (by simp; omega)]

theorem filter_first {α : Type} (p : α → Bool) : ∀ (l : List α) (i : Nat) (hi : i < l.length), p l[i] = true → (∀ j (hj : j < l.length), j < i → p l[j] = false) → (l.filter p).take 1 = [l[i]]
  | [], i, hi, _, _ => absurd hi (by simp)
  | a :: r, 0, _, h, _ => by
    have h' : p a = true := h
    rw [List.filter_cons_of_pos h']; rfl
  | a :: r, i + 1, hi, h, hb => by
    have ha : p a = false := hb 0 (by simp) (by omega)
    rw [List.filter_cons_of_neg (by simp [ha])]
    have := filter_first p r i (by simpa using hi) (by simpa using h) (fun j hj hji => by have := hb (j + 1) (by simp; omega) (by omega); simpa using this)
    simpa using this

theorem Prs.sub {w : World} {D n c b o : Nat} {xs : List (Int × Int)} (h : Prs w D (.slice (some ⟨b, o, none⟩) n c) xs) (i : Nat) (hi : i < xs.length) : Prs w D (.slice (some ⟨b, o + i * 2, none⟩) 1 (c - i)) [xs[i]] := by
  obtain ⟨A', c', hv, ⟨h0, hc⟩, hx⟩ := h
  injection hv with e1 e2 e3
  subst e1 e3
  obtain ⟨b', o', cur, fr, hA, hb, hh, hcc⟩ := hx (by omega)
  injection hA with hA
  injection hA with q1 q2
  subst q1 q2
  refine ⟨_, _, rfl, ⟨(fun e => by cases e), by simp; omega⟩, fun _ => ⟨b, o + i * 2, cur, fr, rfl, hb, hh, fun j hj => ?_⟩⟩
  have hj0 : j = 0 := by simp at hj; exact hj
  subst hj0
  have := hcc i hi
  simpa using this

set_option maxHeartbeats 2000000 in
theorem refOne_any (w : World) (D : Nat) (v : Value) (L : Lay) (s n : Int) (h : LayV w D v L) (hD : D ≤ w.heap.size) (hL : Fits L) :
    Calls Tryz.prog 30 #[v, .int .i64 s, .int .i64 n] w (RetEnds (oneL L.secs s n) w) := by
  have hV := h
  obtain ⟨A0, k0, c0, A1, m1, c1, A2, k2, c2, A3, m3, c3, A4, k4, c4, t0, t1, t2, t3, t4, rfl, hm1, hm3, hSe, hPo⟩ := h.open_
  have hb0 := (Below.refl w.heap.size w).alloc (Nat.le_refl _) (.cells #[.slice A0 k0 c0, .slice A1 m1 c1, .slice A2 k2 c2, .slice A3 m3 c3, .slice A4 k4 c4, .int .i64 t0, .int .i64 t1, .int .i64 t2, .int .i64 t3, .int .i64 t4] 33)
  have HB0 := Lib.hid hb0
  have HRL := Lib.hid (Row.new w 33 #[.slice A0 k0 c0, .slice A1 m1 c1, .slice A2 k2 c2, .slice A3 m3 c3, .slice A4 k4 c4, .int .i64 t0, .int .i64 t1, .int .i64 t2, .int .i64 t3, .int .i64 t4])
  have HV := Lib.hid (hV.keep hb0 hD)
  have hD1 : D ≤ (w.alloc (.cells #[.slice A0 k0 c0, .slice A1 m1 c1, .slice A2 k2 c2, .slice A3 m3 c3, .slice A4 k4 c4, .int .i64 t0, .int .i64 t1, .int .i64 t2, .int .i64 t3, .int .i64 t4] 33)).heap.size := by simp; omega
  have HE := Lib.hid (oneL_eq L.secs s n)
  generalize oneL L.secs s n = r at *
  have HL := Lib.hid hL
  have hs := hL.s
  clear hb0 h hV hSe hPo hm1 hm3 hL
  go_enter Tryz.func30, Tryz.ntmps30
  go_upto_region 1 with (fail)
  obtain ⟨n0, hn0⟩ : ∃ n, n = w.heap.size := ⟨_, rfl⟩
  rw [← hn0] at HRL HB0 ⊢
  have HN0 := Lib.hid hn0
  clear hn0 hD
  generalize w.alloc (.cells #[.slice A0 k0 c0, .slice A1 m1 c1, .slice A2 k2 c2, .slice A3 m3 c3, .slice A4 k4 c4, .int .i64 t0, .int .i64 t1, .int .i64 t2, .int .i64 t3, .int .i64 t4] 33) = W0 at *
  have p0 := HRL.out.cell 0; have p1 := HRL.out.cell 1; have p2 := HRL.out.cell 2; have p3 := HRL.out.cell 3; have p4 := HRL.out.cell 4; have p5 := HRL.out.cell 5; have p6 := HRL.out.cell 6; have p7 := HRL.out.cell 7; have p8 := HRL.out.cell 8; have p9 := HRL.out.cell 9;
  simp only [List.getElem?_toArray, List.getElem?_cons_zero, List.getElem?_cons_succ] at p0 p1 p2 p3 p4 p5 p6 p7 p8 p9
  go_wp2_with fail
  refine (refEnds_any W0 D _ L n HV.out hD1 HL.out).mono ?_; rintro e w1 ⟨v1, rfl, ho1, hb1⟩
  obtain ⟨A, c, hv1⟩ := own_slice ho1
  subst hv1
  have HP := Lib.hid (Prs.of_own ho1)
  have hcap := own_cap ho1
  have HB1 : Hid (Below n0 w w1) := HB0.out.trans (hb1.mono (by have := HRL.out.lt; omega))
  have hel : (endsL L.secs n).length ≤ 200 := by have := endsTo_le L.secs n L.secs.length; unfold endsL; omega
  clear ho1 hb1 p0 p1 p2 p3 p4 p5 p6 p7 p8 p9
  generalize endsL L.secs n = es at *
  go_wp2_with fail
  go_loop [8] (fun k => ∃ i : Nat, i ≤ es.length ∧ k = .int .i64 i ∧ Hid (∀ j (hj : j < es.length), j < i → decide (es[j].1 = s) = false)) (fun k => es.length - (intOf k).toNat)
  case atStart => exact ⟨0, Nat.zero_le _, rfl, fun j _ hj => absurd hj (by omega)⟩
  case round =>
    obtain ⟨i, hi, rfl, HJ⟩ := hrel
    by_cases hlt : i < es.length
    · obtain ⟨b, o, hA, -, q0, q1⟩ := HP.out.at i hlt
      subst hA
      have hci : ¬ c = i := by omega
      have HSB := Lib.hid (HP.out.sub i hlt)
      have HQ1 : Hid (es[i].1 = s → r = [es[i]]) := fun e => by rw [HE.out]; exact filter_first _ es i hlt (by simpa using e) HJ.out
      have HQ2 : Hid (es[i].1 ≠ s → ∀ j (hj : j < es.length), j < i + 1 → decide (es[j].1 = s) = false) := fun e j hj hji => by
        rcases Nat.lt_or_ge j i with c | c
        · exact HJ.out j hj c
        · obtain rfl : j = i := by omega
          simpa using e
      generalize es[i] = z at *
      obtain ⟨z0, z1⟩ := z
      simp only at q0 q1 HQ1 HQ2
      by_cases he : z0 = s
      · have HF := Lib.hid (HQ1.out he)
        have hes := he.symm
        subst hes
        clear HQ1 HQ2
        go_wp2_with fail
        go_ret
        rw [HF.out]
        exact ⟨_, rfl, HSB.out, by rw [← HN0.out]; exact HB1.out⟩
      · have HF := Lib.hid (HQ2.out he)
        clear HQ1 HQ2
        go_wp2_with fail
        go_round
        case rel => exact ⟨i + 1, by omega, by go_num, HF⟩
        case measure => simp [intOf]; omega
    · have HF : Hid (r = []) := by
        show _ = _
        rw [HE.out]
        have : es.filter (fun e => decide (e.1 = s)) = [] := by
          rw [List.filter_eq_nil_iff]
          intro e he
          obtain ⟨j, hj, rfl⟩ := List.getElem_of_mem he
          rw [HJ.out j hj (by omega)]; simp
        rw [this]; rfl
      go_wp2_with fail
      go_ret
      rw [HF.out]
      exact ⟨_, rfl, Prs.nil _ _, by rw [← HN0.out]; exact HB1.out⟩

set_option maxHeartbeats 1000000 in
theorem refHas_any (w : World) (D : Nat) (v : Value) (xs : List Int) (n : Int) (h : Rd w D v (ivals xs)) (hl : xs.length ≤ 100000) :
    Calls Tryz.prog 21 #[v, .int .i64 n] w fun e w' => e = .returned (.bool (xs.contains n)) ∧ w = w' := by
  have HR := Lib.hid h
  obtain ⟨A, c, rfl, -, -⟩ := h
  have hvl : (ivals xs).length = xs.length := by simp [ivals]
  rw [hvl] at HR ⊢
  obtain ⟨r, hr⟩ : ∃ r, xs.contains n = r := ⟨_, rfl⟩
  rw [hr]
  have HC := Lib.hid hr
  clear hr hvl
  go_enter Tryz.func21, Tryz.ntmps21
  go_wp2_with fail
  go_loop [5] (fun k => ∃ i : Nat, i ≤ xs.length ∧ k = .int .i64 i ∧ Hid (∀ j (hj : j < xs.length), j < i → xs[j] ≠ n)) (fun k => xs.length - (intOf k).toNat)
  case atStart => exact ⟨0, Nat.zero_le _, rfl, fun j _ hj => absurd hj (by omega)⟩
  case round =>
    obtain ⟨i, hi, rfl, HJ⟩ := hrel
    by_cases hlt : i < xs.length
    · obtain ⟨b, o, hA, -, q0⟩ := HR.out.at (i := i) (u := .int .i64 xs[i]) (by simp [ivals, hlt])
      subst hA
      have HQ1 : Hid (xs[i] = n → r = true) := fun e => by rw [← HC.out]; exact List.contains_iff_mem.2 (by rw [← e]; exact List.getElem_mem _)
      have HQ2 : Hid (xs[i] ≠ n → ∀ j (hj : j < xs.length), j < i + 1 → xs[j] ≠ n) := fun e j hj hji => by
        rcases Nat.lt_or_ge j i with c | c
        · exact HJ.out j hj c
        · obtain rfl : j = i := by omega
          exact e
      generalize xs[i] = z at *
      by_cases he : z = n
      · have HF := Lib.hid (HQ1.out he)
        have hes := he.symm
        subst hes
        clear HQ1 HQ2
        go_wp2_with fail
        go_ret
        exact ⟨ret_bool HF.out.symm, rfl⟩
      · have HF := Lib.hid (HQ2.out he)
        clear HQ1 HQ2
        go_wp2_with fail
        go_round
        case rel => exact ⟨i + 1, by omega, by go_num, HF⟩
        case measure => simp [intOf]; omega
    · have HF : Hid (r = false) := by
        show _ = _
        rw [← HC.out]
        cases hc : xs.contains n with
        | false => rfl
        | true =>
          obtain ⟨j, hj, e⟩ := List.getElem_of_mem (List.contains_iff_mem.1 hc)
          exact absurd e (HJ.out j hj (by omega))
      go_wp2_with fail
      go_ret
      exact ⟨ret_bool HF.out.symm, rfl⟩

end Go.Proofs.YtagkgejdammflaaGreat

namespace Go.Proofs.YtagkgejdammflaaGreat
open Go.RowKit Fl
set_option maxRecDepth 100000

theorem endsTo_lt (ss : List (Int × Int × Int)) (n : Int) : ∀ k, ∀ e ∈ endsTo ss n k, e.1 < (k : Int)
  | 0 => by intro e he; simp [endsTo] at he
  | k + 1 => by
    intro e he
    rw [endsTo, List.mem_append] at he
    rcases he with h | h
    · have := endsTo_lt ss n k e h; omega
    · have := endsAt_fst ss n k e h; omega

theorem endsAt_nodup (ss : List (Int × Int × Int)) (n : Int) (i : Nat) : (endsAt ss n i).Nodup := by
  unfold endsAt; split <;> split <;> simp

theorem endsTo_nodup (ss : List (Int × Int × Int)) (n : Int) : ∀ k, (endsTo ss n k).Nodup
  | 0 => by simp [endsTo]
  | k + 1 => by
    rw [endsTo, List.nodup_append]
    refine ⟨endsTo_nodup ss n k, endsAt_nodup ss n k, ?_⟩
    intro a ha b hb e
    subst e
    have h1 := endsTo_lt ss n k a ha
    have h2 := endsAt_fst ss n k a hb
    omega

theorem endsTo_mem (ss : List (Int × Int × Int)) (n : Int) (i : Nat) (e : Int × Int) (h : e ∈ endsAt ss n i) : ∀ k, i < k → e ∈ endsTo ss n k
  | 0, hk => absurd hk (by omega)
  | k + 1, hk => by
    rw [endsTo, List.mem_append]
    rcases Nat.lt_or_ge i k with c | c
    · exact Or.inl (endsTo_mem ss n i e h k c)
    · have : i = k := by omega
      subst this
      exact Or.inr h

theorem node_mem {ss : List (Int × Int × Int)} {e : Int × Int} {n : Int} (h : nodeL ss e = some n) : e ∈ endsL ss n := by
  obtain ⟨s, k⟩ := e
  unfold nodeL at h
  simp only at h
  cases hb : hasB ss s with
  | false => rw [hb] at h; simp at h
  | true =>
    obtain ⟨i, rfl, hi⟩ := hasB_nat hb
    rw [hb] at h
    simp only [if_true, Int.toNat_natCast] at h
    refine endsTo_mem ss n i _ ?_ ss.length hi
    unfold endsAt
    by_cases h0 : k = 0
    · rw [if_pos h0] at h
      injection h with h
      subst h0
      rw [if_pos h]; simp
    · rw [if_neg h0] at h
      by_cases h1 : k = 1
      · rw [if_pos h1] at h
        injection h with h
        subst h1
        rw [if_pos h]; simp
      · rw [if_neg h1] at h; cases h

/-- All but one. -/
def butL (es : List (Int × Int)) (e : Int × Int) : List (Int × Int) := es.filter (fun x => decide (x ≠ e))

theorem across_eq {es : List (Int × Int)} {e : Int × Int} (hn : es.Nodup) (hm : e ∈ es) : acrossL es e = if (butL es e).length = 1 then butL es e else [] := by
  have hl : (butL es e).length = es.length - 1 := by
    have h1 : butL es e = es.erase e := by
      rw [hn.erase_eq_filter]; unfold butL
      apply List.filter_congr
      intro x _
      by_cases hx : x = e <;> simp [hx]
    rw [h1, List.length_erase_of_mem hm]
  match es, hn, hm, hl with
  | [a], _, hm, hl =>
    have h0 : (butL [a] e).length = 0 := hl
    rw [if_neg (by omega)]; rfl
  | [a, b], hn, hm, hl =>
    have h1 : (butL [a, b] e).length = 1 := hl
    rw [if_pos h1]
    have hab : a ≠ b := by simp at hn; exact hn
    show (if a = e then [b] else [a]) = _
    unfold butL
    by_cases h : a = e
    · subst h
      rw [if_pos rfl]
      simp [Ne.symm hab]
    · have hb : b = e := by
        simp at hm
        rcases hm with h1 | h1
        · exact absurd h1.symm h
        · exact h1.symm
      subst hb
      rw [if_neg h]
      simp [hab]
  | a :: b :: c :: r, _, _, hl =>
    have h2 : (butL (a :: b :: c :: r) e).length = r.length + 2 := hl
    rw [if_neg (by omega)]
    rfl

theorem pointL_node {ps : List (Int × Int × Int × Int)} {n : Int} {i : Nat} (h : pointL ps n = (i : Int)) (hi : i < ps.length) : ps[i].1 = n := by
  unfold pointL at h
  cases e : ps.findIdx? (fun p => decide (p.1 = n)) with
  | none =>
    rw [e] at h
    have h2 : (-1 : Int) = (i : Int) := h
    omega
  | some j =>
    rw [e] at h
    have h2 : (j : Int) = (i : Int) := h
    have hji : j = i := by omega
    subst hji
    rw [List.findIdx?_eq_some_iff_getElem] at e
    obtain ⟨_, h2, _⟩ := e
    simpa using h2

theorem butL_take (es : List (Int × Int)) (e : Int × Int) (i : Nat) (h : i < es.length) : butL (es.take (i + 1)) e = butL (es.take i) e ++ (if es[i] = e then [] else [es[i]]) := by
  unfold butL
  rw [List.take_succ_eq_append_getElem h, List.filter_append]
  by_cases hx : es[i] = e <;> simp [hx]

theorem butL_le (es : List (Int × Int)) (e : Int × Int) : (butL es e).length ≤ es.length := List.length_filter_le _ _

theorem neq_end (a b c d : Int) (w : World) : (binOp .neq 60 (.agg #[.int .i64 a, .int .i64 b]) (.agg #[.int .i64 c, .int .i64 d])).run Tryz.prog w = .ok (.bool (!(a == c && b == d))) w := by
  rw [run_neq_struct, run_equalIn_struct w 9999 60 _ _ (by kernel_rfl) (by kernel_rfl)]
  simp [Program.fieldsOf, Tryz.underlying60, go_sem]
  by_cases h : a = c
  · by_cases h2 : b = d <;> simp [h, h2]
  · simp [h]

end Go.Proofs.YtagkgejdammflaaGreat

namespace Go.Proofs.YtagkgejdammflaaGreat
open Go.RowKit Fl
set_option maxRecDepth 100000

set_option maxHeartbeats 8000000 in
theorem refAround_any (w : World) (D : Nat) (v : Value) (L : Lay) (s k : Int) (h : LayV w D v L) (hD : D ≤ w.heap.size) (hL : Fits L) :
    Calls Tryz.prog 20 #[v, .agg #[.int .i64 s, .int .i64 k]] w (RetEnds (aroundL L (s, k)) w) := by
  have hV := h
  obtain ⟨A0, k0, c0, A1, m1, c1, A2, k2, c2, A3, m3, c3, A4, k4, c4, t0, t1, t2, t3, t4, rfl, hm1, hm3, hSe, hPo⟩ := h.open_
  have HB0 : Hid (Below w.heap.size w ((w.alloc (.cells #[.slice A0 k0 c0, .slice A1 m1 c1, .slice A2 k2 c2, .slice A3 m3 c3, .slice A4 k4 c4, .int .i64 t0, .int .i64 t1, .int .i64 t2, .int .i64 t3, .int .i64 t4] 33)).alloc (.cells #[.int .i64 s, .int .i64 k] 60))) := below2 w _ _
  have HRL0 := Lib.hid ((Row.new w 33 #[.slice A0 k0 c0, .slice A1 m1 c1, .slice A2 k2 c2, .slice A3 m3 c3, .slice A4 k4 c4, .int .i64 t0, .int .i64 t1, .int .i64 t2, .int .i64 t3, .int .i64 t4]).alloc (.cells #[.int .i64 s, .int .i64 k] 60))
  have hr1 := Row.new (w.alloc (.cells #[.slice A0 k0 c0, .slice A1 m1 c1, .slice A2 k2 c2, .slice A3 m3 c3, .slice A4 k4 c4, .int .i64 t0, .int .i64 t1, .int .i64 t2, .int .i64 t3, .int .i64 t4] 33)) 60 #[.int .i64 s, .int .i64 k]
  rw [World.size_alloc] at hr1
  have HRE0 := Lib.hid hr1
  have HV0 := Lib.hid (hV.keep HB0.out hD)
  have hD0 : D ≤ ((w.alloc (.cells #[.slice A0 k0 c0, .slice A1 m1 c1, .slice A2 k2 c2, .slice A3 m3 c3, .slice A4 k4 c4, .int .i64 t0, .int .i64 t1, .int .i64 t2, .int .i64 t3, .int .i64 t4] 33)).alloc (.cells #[.int .i64 s, .int .i64 k] 60)).heap.size := by simp; omega
  have HM3 := Lib.hid hm3
  have hq := hL.q; have hs := hL.s
  rw [hm3] at hq
  have HL := Lib.hid hL
  obtain ⟨r, hr⟩ : ∃ r, aroundL L (s, k) = r := ⟨_, rfl⟩
  rw [hr]
  have HE : Hid (r = match nodeL L.secs (s, k) with
    | none => []
    | some n => if 0 ≤ pointL L.points n then
        (let p := L.points.getD (pointL L.points n).toNat (0, 0, 0, 0)
         throughL L.secs p s [p.2.2.1, p.2.2.2])
      else acrossL (endsL L.secs n) (s, k)) := by rw [← hr]; rfl
  clear hr hr1 h hV hSe hPo hm1 hm3 hL
  obtain ⟨i4, hi4, hz40, hz41, hz42⟩ := info_parts Tryz.info60
  go_enter Tryz.func20, Tryz.ntmps20
  go_upto_region 1 with (fail)
  obtain ⟨n0, hn0⟩ : ∃ n, n = w.heap.size := ⟨_, rfl⟩
  obtain ⟨n1, hn1⟩ : ∃ n, n = n0 + 1 := ⟨_, rfl⟩
  rw [← hn0] at HRL0 HB0 HRE0 ⊢
  rw [← hn1] at HRE0 ⊢
  have HN0 : Hid (n0 = w.heap.size ∧ n1 = n0 + 1) := ⟨hn0, hn1⟩
  clear hn0 hn1 hD
  generalize (w.alloc (.cells #[.slice A0 k0 c0, .slice A1 m1 c1, .slice A2 k2 c2, .slice A3 m3 c3, .slice A4 k4 c4, .int .i64 t0, .int .i64 t1, .int .i64 t2, .int .i64 t3, .int .i64 t4] 33)).alloc (.cells #[.int .i64 s, .int .i64 k] 60) = W0 at *
  have p0 := HRL0.out.cell 0; have p1 := HRL0.out.cell 1; have p2 := HRL0.out.cell 2; have p3 := HRL0.out.cell 3; have p4 := HRL0.out.cell 4; have p5 := HRL0.out.cell 5; have p6 := HRL0.out.cell 6; have p7 := HRL0.out.cell 7; have p8 := HRL0.out.cell 8; have p9 := HRL0.out.cell 9
  simp only [List.getElem?_toArray, List.getElem?_cons_zero, List.getElem?_cons_succ] at p0 p1 p2 p3 p4 p5 p6 p7 p8 p9
  have e0 := HRE0.out.cell 0; have e1 := HRE0.out.cell 1
  simp only [List.getElem?_toArray, List.getElem?_cons_zero, List.getElem?_cons_succ] at e0 e1
  go_wp2_with fail
  refine (refNode_any W0 D _ L s k HV0.out hD0 HL.out).mono ?_; rintro e w1 ⟨rfl, hb⟩
  have HB1 : Hid (Below n0 w w1) := HB0.out.trans (hb.mono (by have := HRL0.out.lt; omega))
  have HRL1 := Lib.hid (Below.row hb HRL0.out HRL0.out.lt)
  have HRE1 := Lib.hid (Below.row hb HRE0.out HRE0.out.lt)
  have HV1 := Lib.hid (HV0.out.keep hb hD0)
  have hD1 : D ≤ w1.heap.size := by have := hb.size; omega
  clear hb e0 e1
  clear p0 p1 p2 p3 p4 p5 p6 p7 p8 p9
  cases hn : nodeL L.secs (s, k) with
  | none =>
    rw [hn] at HE
    have HE2 : Hid (r = []) := HE.out
    clear HE hn
    simp only [Option.getD_none, Option.isSome_none]
    go_wp2_with fail
    go_ret
    rw [HE2.out]
    exact ⟨_, rfl, Prs.nil _ _, by rw [← HN0.out.1]; exact HB1.out⟩
  | some n =>
    rw [hn] at HE
    have HMEM := Lib.hid (node_mem hn)
    simp only [Option.getD_some, Option.isSome_some] at HE ⊢
    clear hn
    have p0 := HRL1.out.cell 0; have p1 := HRL1.out.cell 1; have p2 := HRL1.out.cell 2; have p3 := HRL1.out.cell 3; have p4 := HRL1.out.cell 4; have p5 := HRL1.out.cell 5; have p6 := HRL1.out.cell 6; have p7 := HRL1.out.cell 7; have p8 := HRL1.out.cell 8; have p9 := HRL1.out.cell 9
    simp only [List.getElem?_toArray, List.getElem?_cons_zero, List.getElem?_cons_succ] at p0 p1 p2 p3 p4 p5 p6 p7 p8 p9
    go_wp2_with fail
    refine (refPoint_any w1 D _ L n HV1.out hD1 HL.out).mono ?_; rintro e w2 ⟨rfl, hb⟩
    have HB2 : Hid (Below n0 w w2) := HB1.out.trans (hb.mono (by have := HRL1.out.lt; omega))
    have HRL2 := Lib.hid (Below.row hb HRL1.out HRL1.out.lt)
    have HRE2 := Lib.hid (Below.row hb HRE1.out HRE1.out.lt)
    have HV2 := Lib.hid (HV1.out.keep hb hD1)
    have hD2 : D ≤ w2.heap.size := by have := hb.size; omega
    clear hb
    clear p0 p1 p2 p3 p4 p5 p6 p7 p8 p9
    by_cases hp : 0 ≤ pointL L.points n
    · obtain ⟨i, hi, hlt⟩ := pointL_lt hp
      have hnd := pointL_node hi hlt
      have HE2 : Hid (r = throughL L.secs L.points[i] s [L.points[i].2.2.1, L.points[i].2.2.2]) := by
        show _ = _
        have h1 := HE.out
        rw [if_pos hp, hi] at h1
        have h2 : L.points.getD i (0, 0, 0, 0) = L.points[i] := by simp [List.getD, hlt]
        simp only [Int.toNat_natCast, h2] at h1
        exact h1
      rw [hi]
      have hPo : Pts w2 D (.slice A3 m3 c3) L.points := by
        obtain ⟨_, _, _, _, _, _, e, hd⟩ := HV2.out
        injection e with e
        simp at e
        obtain ⟨-, -, -, e3, -⟩ := e
        rw [e3]; exact hd.q
      obtain ⟨b, o, hA, -, c0', c1', c2', c3'⟩ := hPo.at i hlt
      subst hA
      have him : i < m3 := by have := HM3.out; omega
      clear HE hi hp hPo
      generalize L.points[i] = z at *
      obtain ⟨z0, z1, z2, z3⟩ := z
      simp only at c0' c1' c2' c3' HE2 hnd
      subst hnd
      have f3 := HRL2.out.cell 3
      simp only [List.getElem?_toArray, List.getElem?_cons_zero, List.getElem?_cons_succ] at f3
      have hb3 := (Below.refl w2.heap.size w2).alloc (Nat.le_refl _) (.cells #[.int .i64 z0, .int .i64 z1, .int .i64 z2, .int .i64 z3] 41)
      have HB3 : Hid (Below n0 w (w2.alloc (.cells #[.int .i64 z0, .int .i64 z1, .int .i64 z2, .int .i64 z3] 41))) := HB2.out.trans (hb3.mono (by have := HRL2.out.lt; omega))
      have HRL3 := Lib.hid (HRL2.out.alloc (.cells #[.int .i64 z0, .int .i64 z1, .int .i64 z2, .int .i64 z3] 41))
      have HRE3 := Lib.hid (HRE2.out.alloc (.cells #[.int .i64 z0, .int .i64 z1, .int .i64 z2, .int .i64 z3] 41))
      have HV3 := Lib.hid (HV2.out.keep hb3 hD2)
      have HRZ3 := Lib.hid (Row.new w2 41 #[.int .i64 z0, .int .i64 z1, .int .i64 z2, .int .i64 z3])
      have hD3 : D ≤ (w2.alloc (.cells #[.int .i64 z0, .int .i64 z1, .int .i64 z2, .int .i64 z3] 41)).heap.size := by simp; omega
      clear hb3
      go_upto_region 8 with (fail)
      obtain ⟨a3, ha3⟩ : ∃ x, x = w2.heap.size := ⟨_, rfl⟩
      rw [← ha3] at HRZ3 ⊢
      clear ha3 c0' c1' c2' c3' f3
      generalize w2.alloc (.cells #[.int .i64 z0, .int .i64 z1, .int .i64 z2, .int .i64 z3] 41) = w3 at *
      have p0 := HRL3.out.cell 0; have p1 := HRL3.out.cell 1; have p2 := HRL3.out.cell 2; have p3 := HRL3.out.cell 3; have p4 := HRL3.out.cell 4; have p5 := HRL3.out.cell 5; have p6 := HRL3.out.cell 6; have p7 := HRL3.out.cell 7; have p8 := HRL3.out.cell 8; have p9 := HRL3.out.cell 9
      simp only [List.getElem?_toArray, List.getElem?_cons_zero, List.getElem?_cons_succ] at p0 p1 p2 p3 p4 p5 p6 p7 p8 p9
      have e0 := HRE3.out.cell 0; have e1 := HRE3.out.cell 1
      simp only [List.getElem?_toArray, List.getElem?_cons_zero, List.getElem?_cons_succ] at e0 e1
      have q0 := HRZ3.out.cell 0; have q1 := HRZ3.out.cell 1; have q2 := HRZ3.out.cell 2; have q3 := HRZ3.out.cell 3
      simp only [List.getElem?_toArray, List.getElem?_cons_zero, List.getElem?_cons_succ] at q0 q1 q2 q3
      by_cases hst : s = z1
      · have HE3 : Hid (r = oneL L.secs z2 z0 ++ oneL L.secs z3 z0) := by show _ = _; rw [HE2.out]; unfold throughL; rw [if_pos hst]; simp
        have hst2 := hst.symm
        subst hst2
        clear HE2 hst
        have hl1 := oneL_le L.secs z2 z0
        have hl2 := oneL_le L.secs z3 z0
        go_wp2_with fail
        refine (refOne_any w3 D _ L z2 z0 HV3.out hD3 HL.out).mono ?_; rintro e w4 ⟨v4, rfl, hp4, hb⟩
        have HB4 : Hid (Below n0 w w4) := HB3.out.trans (hb.mono (by have := HRL3.out.lt; omega))
        have HRL4 := Lib.hid (Below.row hb HRL3.out HRL3.out.lt)
        have HRE4 := Lib.hid (Below.row hb HRE3.out HRE3.out.lt)
        have HV4 := Lib.hid (HV3.out.keep hb hD3)
        have hD4 : D ≤ w4.heap.size := by have := hb.size; omega
        have HRZ4 := Lib.hid (Below.row hb HRZ3.out HRZ3.out.lt)
        obtain ⟨A5, c5, hv5, -⟩ := id hp4
        subst hv5
        have HP4 := Lib.hid hp4
        clear hb hp4 e0 e1 q0 q1 q2 q3
        clear p0 p1 p2 p3 p4 p5 p6 p7 p8 p9
        have HO4 : Hid (w4.ownsRow w4.heap.size 60 2 (.slice none 0 0) 0 (ecells [])) := World.ownsRow_nil _ _ _ _
        generalize oneL L.secs z2 z0 = y4 at *
        go_wp2_with (at_builtin; (refine wpList_app_prs rfl (.tmp 35) (.tmp 40) 61 rfl w4.heap.size 60 i4 _ Tryz.underlying61 hi4 hz40 hz41 hz42 rfl (.slice none 0 0) 0 [] rfl HO4.out _ y4 rfl HP4.out (by omega) (Nat.le_refl _) ?_))
        intro v5 w5 hown5 hgrow5
        obtain ⟨A6, c6, hv6⟩ := own_slice hown5
        subst hv6
        have hb5 : Below w4.heap.size w4 w5 := (Below.refl _ _).grown hgrow5 (Nat.le_refl _) (fun k hk => by cases hk)
        have HB5 : Hid (Below n0 w w5) := HB4.out.trans (hb5.mono (by have := HRL4.out.lt; omega))
        have HRL5 := Lib.hid (Below.row hb5 HRL4.out HRL4.out.lt)
        have HRE5 := Lib.hid (Below.row hb5 HRE4.out HRE4.out.lt)
        have HRZ5 := Lib.hid (Below.row hb5 HRZ4.out HRZ4.out.lt)
        have HV5 := Lib.hid (HV4.out.keep hb5 hD4)
        have hD5 : D ≤ w5.heap.size := by have := hb5.size; omega
        have HO5 : Hid (w5.ownsRow w4.heap.size 60 2 (.slice A6 y4.length c6) y4.length (ecells y4)) := hown5
        have HS5 : Hid (w4.heap.size ≤ w5.heap.size) := hb5.size
        clear hown5 hgrow5 hb5
        have p0 := HRL5.out.cell 0; have p1 := HRL5.out.cell 1; have p2 := HRL5.out.cell 2; have p3 := HRL5.out.cell 3; have p4 := HRL5.out.cell 4; have p5 := HRL5.out.cell 5; have p6 := HRL5.out.cell 6; have p7 := HRL5.out.cell 7; have p8 := HRL5.out.cell 8; have p9 := HRL5.out.cell 9
        simp only [List.getElem?_toArray, List.getElem?_cons_zero, List.getElem?_cons_succ] at p0 p1 p2 p3 p4 p5 p6 p7 p8 p9
        have q0 := HRZ5.out.cell 0; have q1 := HRZ5.out.cell 1; have q2 := HRZ5.out.cell 2; have q3 := HRZ5.out.cell 3
        simp only [List.getElem?_toArray, List.getElem?_cons_zero, List.getElem?_cons_succ] at q0 q1 q2 q3
        go_wp2_with fail
        refine (refOne_any w5 D _ L z3 z0 HV5.out hD5 HL.out).mono ?_; rintro e w6 ⟨v6, rfl, hp6, hb⟩
        have HB6 : Hid (Below n0 w w6) := HB5.out.trans (hb.mono (by have := HRL5.out.lt; omega))
        have HRL6 := Lib.hid (Below.row hb HRL5.out HRL5.out.lt)
        have HRE6 := Lib.hid (Below.row hb HRE5.out HRE5.out.lt)
        have HV6 := Lib.hid (HV5.out.keep hb hD5)
        have hD6 : D ≤ w6.heap.size := by have := hb.size; omega
        obtain ⟨A7, c7, hv7, -⟩ := id hp6
        subst hv7
        have HP6 := Lib.hid hp6
        have HO6 := Lib.hid (own_below HO5.out hb)
        have HS6 : Hid (w4.heap.size ≤ w6.heap.size) := Nat.le_trans HS5.out hb.size
        clear hb hp6 q0 q1 q2 q3
        clear p0 p1 p2 p3 p4 p5 p6 p7 p8 p9
        generalize oneL L.secs z3 z0 = y6 at *
        go_wp2_with (at_builtin; refine wpList_app_prs rfl (.tmp 42) (.tmp 47) 61 rfl w4.heap.size 60 i4 _ Tryz.underlying61 hi4 hz40 hz41 hz42 rfl _ _ y4 rfl HO6.out _ y6 rfl HP6.out (by omega) HS6.out ?_)
        intro v8 w8 hown8 hgrow8
        have HP8 := Lib.hid (Prs.of_own hown8)
        have HB8 : Hid (Below n0 w w8) := HB6.out.grown hgrow8 (by have := HB6.out.size; have := HN0.out; omega) (fun k hk => by have h1 := (HO6.out.lt k hk).1; have h2 := HRL4.out.lt; omega)
        clear hown8 hgrow8
        go_wp2_with fail
        go_ret
        rw [HE3.out]
        exact ⟨_, rfl, HP8.out, by rw [← HN0.out.1]; exact HB8.out⟩
      · have hnst : ¬ s = z1 := hst
        by_cases hin : s = z2 ∨ s = z3
        · have HE3 : Hid (r = oneL L.secs z1 z0) := by
            show _ = _
            rw [HE2.out]; unfold throughL
            rw [if_neg hst, if_pos (by simp; exact hin)]
          clear HE2
          have hin1 : s = z2 ∨ (¬ s = z2 ∧ s = z3) := by omega
          rcases hin1 with h2 | ⟨h2, h3⟩
          · have h2s := h2.symm
            subst h2s
            go_wp2_with fail
            refine (refOne_any w3 D _ L z1 z0 HV3.out hD3 HL.out).mono ?_; rintro e w4 ⟨v4, rfl, hp4, hb⟩
            have HB4 : Hid (Below n0 w w4) := HB3.out.trans (hb.mono (by have := HRL3.out.lt; omega))
            have HRL4 := Lib.hid (Below.row hb HRL3.out HRL3.out.lt)
            have HRE4 := Lib.hid (Below.row hb HRE3.out HRE3.out.lt)
            have HV4 := Lib.hid (HV3.out.keep hb hD3)
            have hD4 : D ≤ w4.heap.size := by have := hb.size; omega
            have HP4 := Lib.hid hp4
            clear hb hp4 e0 e1 q0 q1 q2 q3
            clear p0 p1 p2 p3 p4 p5 p6 p7 p8 p9
            go_wp2_with fail
            go_ret
            rw [HE3.out]
            exact ⟨_, rfl, HP4.out, by rw [← HN0.out.1]; exact HB4.out⟩
          · have h3s := h3.symm
            subst h3s
            go_wp2_with fail
            refine (refOne_any w3 D _ L z1 z0 HV3.out hD3 HL.out).mono ?_; rintro e w4 ⟨v4, rfl, hp4, hb⟩
            have HB4 : Hid (Below n0 w w4) := HB3.out.trans (hb.mono (by have := HRL3.out.lt; omega))
            have HRL4 := Lib.hid (Below.row hb HRL3.out HRL3.out.lt)
            have HRE4 := Lib.hid (Below.row hb HRE3.out HRE3.out.lt)
            have HV4 := Lib.hid (HV3.out.keep hb hD3)
            have hD4 : D ≤ w4.heap.size := by have := hb.size; omega
            have HP4 := Lib.hid hp4
            clear hb hp4 e0 e1 q0 q1 q2 q3
            clear p0 p1 p2 p3 p4 p5 p6 p7 p8 p9
            go_wp2_with fail
            go_ret
            rw [HE3.out]
            exact ⟨_, rfl, HP4.out, by rw [← HN0.out.1]; exact HB4.out⟩
        · have HE3 : Hid (r = []) := by
            show _ = _
            rw [HE2.out]; unfold throughL
            rw [if_neg hst, if_neg (by simp; omega)]
          have hn2 : ¬ s = z2 := by omega
          have hn3 : ¬ s = z3 := by omega
          have hb2 : (s == z2) = false := by simpa using hn2
          have hb3 : (s == z3) = false := by simpa using hn3
          clear HE2
          go_wp2_with fail
          go_ret
          rw [HE3.out]
          exact ⟨_, rfl, Prs.nil _ _, by rw [← HN0.out.1]; exact HB3.out⟩
    · have HE2 : Hid (r = if (butL (endsL L.secs n) (s, k)).length = 1 then butL (endsL L.secs n) (s, k) else []) := by
        show _ = _
        rw [HE.out, if_neg hp]
        exact across_eq (endsTo_nodup _ _ _) HMEM.out
      clear HE
      generalize pointL L.points n = pp at *
      have p0 := HRL2.out.cell 0; have p1 := HRL2.out.cell 1; have p2 := HRL2.out.cell 2; have p3 := HRL2.out.cell 3; have p4 := HRL2.out.cell 4; have p5 := HRL2.out.cell 5; have p6 := HRL2.out.cell 6; have p7 := HRL2.out.cell 7; have p8 := HRL2.out.cell 8; have p9 := HRL2.out.cell 9
      simp only [List.getElem?_toArray, List.getElem?_cons_zero, List.getElem?_cons_succ] at p0 p1 p2 p3 p4 p5 p6 p7 p8 p9
      go_wp2_with fail
      refine (refEnds_any w2 D _ L n HV2.out hD2 HL.out).mono ?_; rintro e w3 ⟨v3, rfl, ho3, hb⟩
      have HB3 : Hid (Below n0 w w3) := HB2.out.trans (hb.mono (by have := HRL2.out.lt; omega))
      have HRL3 := Lib.hid (Below.row hb HRL2.out HRL2.out.lt)
      have HRE3 := Lib.hid (Below.row hb HRE2.out HRE2.out.lt)
      have HV3 := Lib.hid (HV2.out.keep hb hD2)
      have hD3 : D ≤ w3.heap.size := by have := hb.size; omega
      obtain ⟨A, c, hv3⟩ := own_slice ho3
      subst hv3
      have HP := Lib.hid (Prs.of_own ho3)
      have hel : (endsL L.secs n).length ≤ 200 := by have := endsTo_le L.secs n L.secs.length; unfold endsL; omega
      clear hb ho3
      clear p0 p1 p2 p3 p4 p5 p6 p7 p8 p9
      generalize endsL L.secs n = es at *
      obtain ⟨B3, hB3⟩ : ∃ x, x = w3.heap.size := ⟨_, rfl⟩
      have HB3e := Lib.hid hB3
      have hB3' : B3 ≤ w3.heap.size := by omega
      have HN1 : Hid (n0 < B3 ∧ n1 < B3) := by have h1 := HRL3.out.lt; have h2 := HRE3.out.lt; exact ⟨by omega, by omega⟩
      clear hB3
      go_wp2_with fail
      go_loopw [8, 11] (fun t k9 wr => ∃ i : Nat, i ≤ es.length ∧ k9 = .int .i64 i ∧ Hid (wr.ownsRow B3 60 2 t (butL (es.take i) (s, k)).length (ecells (butL (es.take i) (s, k))) ∧ Below B3 w3 wr)) (fun _ k9 _ => es.length - (intOf k9).toNat)
      case atStart => exact ⟨0, Nat.zero_le _, rfl, World.ownsRow_nil _ _ _ _, Below.refl _ _⟩
      case round =>
        obtain ⟨i, hi, rfl, HJ⟩ := hrel
        obtain ⟨At, ct, hvt⟩ := own_slice HJ.out.1
        subst hvt
        by_cases hlt : i < es.length
        · obtain ⟨b, o, hA, hbD, g0, g1⟩ := HP.out.at i hlt
          subst hA
          have hbB : b < B3 := by have := HB3e.out; omega
          have q0 := (HJ.out.2.cell (p := ⟨b, o + i * 2, none⟩) hbB).trans g0
          have q1 := (HJ.out.2.cell (p := ⟨b, o + i * 2 + 1, none⟩) hbB).trans g1
          have rE := Below.row HJ.out.2 HRE3.out HN1.out.2
          have e0 := rE.cell 0; have e1 := rE.cell 1
          simp only [List.getElem?_toArray, List.getElem?_cons_zero, List.getElem?_cons_succ] at e0 e1
          have HSN := Lib.hid (butL_take es (s, k) i hlt)
          have hbl : (butL (es.take i) (s, k)).length ≤ 200 := by have h1 := butL_le (es.take i) (s, k); simp at h1; omega
          clear g0 g1 rE
          generalize es[i] = z at *
          obtain ⟨x0, x1⟩ := z
          simp only at q0 q1 HSN
          have qe := neq_end x0 x1 s k
          go_upto_region 18 with (fail)
          obtain ⟨bs, hbs⟩ : ∃ bs, butL (es.take i) (s, k) = bs := ⟨_, rfl⟩
          rw [hbs] at HJ HSN hbl
          simp only [hbs]
          clear hbs
          by_cases hxe : x0 = s ∧ x1 = k
          · obtain ⟨h1, h2⟩ := hxe
            have hq9 : (!(x0 == s && x1 == k)) = false := by rw [h1, h2]; simp
            rw [hq9] at qe
            have HS3 : Hid (butL (es.take (i + 1)) (s, k) = bs) := by show _ = _; rw [HSN.out, if_pos (by rw [h1, h2]), List.append_nil]
            clear HSN hq9 h1 h2
            go_quiet (fail)
            clear qe q0 q1 e0 e1
            go_wp2_with fail
            go_roundw
            case rel => exact ⟨i + 1, by omega, by go_num, by rw [HS3.out]; exact HJ.out.1, HJ.out.2.os, HJ.out.2.tape, HJ.out.2.output, HJ.out.2.size, HJ.out.2.block⟩
            case measure => simp [intOf]; omega
          · have hne : ¬ (x0, x1) = (s, k) := by intro e; injection e with e1 e2; exact hxe ⟨e1, e2⟩
            have hq9 : (!(x0 == s && x1 == k)) = true := by
              rw [Bool.not_eq_true', Bool.and_eq_false_iff]
              by_cases h1 : x0 = s
              · right; simp; exact fun h2 => hxe ⟨h1, h2⟩
              · left; simpa using h1
            rw [hq9] at qe
            have HS3 : Hid (butL (es.take (i + 1)) (s, k) = bs ++ [(x0, x1)]) := by show _ = _; rw [HSN.out, if_neg hne]
            clear HSN hq9 hxe hne
            go_quiet (fail)
            have HJ2 : Hid ((wr.drewN nq).ownsRow B3 60 2 (.slice At bs.length ct) bs.length (ecells bs) ∧ Below B3 w3 (wr.drewN nq)) := ⟨HJ.out.1, HJ.out.2.os, HJ.out.2.tape, HJ.out.2.output, HJ.out.2.size, HJ.out.2.block⟩
            have q0' : (wr.drewN nq).cell? ⟨b, o + i * 2, none⟩ = some (.int .i64 x0) := q0
            have q1' : (wr.drewN nq).cell? ⟨b, o + i * 2 + 1, none⟩ = some (.int .i64 x1) := q1
            clear HJ qe q0 q1 e0 e1
            generalize wr.drewN nq = wq at *
            go_wp2_with (at_builtin; refine wpList_append_own _ rfl (.tmp 81) (.tmp 86) 61 rfl B3 60 i4 (.agg #[.int .i64 0, .int .i64 0]) 2 16 Tryz.underlying61 hi4 hz40 hz41 hz42 rfl (by decide) _ _ _ rfl (HJ2.out.1.alloc _) ⟨wq.heap.size, 0, none⟩ 1 1 [.int .i64 x0, .int .i64 x1] rfl rfl (row_new wq 60 _) (by intro u hu; simp at hu; rcases hu with rfl | rfl <;> rfl) (by unfold maxLen; omega) (by omega) (by have := HJ2.out.2.size; simp; omega) ?_)
            intro v7 w7 hown7 hgrow7 _
            have HNX : Hid (w7.ownsRow B3 60 2 v7 (butL (es.take (i + 1)) (s, k)).length (ecells (butL (es.take (i + 1)) (s, k))) ∧ Below B3 w3 w7) := by
              refine ⟨?_, (HJ2.out.2.alloc (by have := HJ2.out.2.size; omega) _).grown hgrow7 (by have := HJ2.out.2.size; simp; omega) (fun k hk => (HJ2.out.1.lt k hk).1)⟩
              rw [HS3.out, List.length_append, ← ecells_snoc bs (x0, x1)]
              exact hown7
            clear hown7 hgrow7 q0' q1'
            go_wp2_with fail
            go_roundw
            case rel => exact ⟨i + 1, by omega, by go_num, HNX⟩
            case measure => simp [intOf]; omega
        · have HT : Hid (butL (es.take i) (s, k) = butL es (s, k)) := by show _ = _; rw [List.take_of_length_le (by omega)]
          rw [HT.out] at HJ
          have HPO := Lib.hid (Prs.of_own HJ.out.1)
          have HBO : Hid (Below n0 w wr) := HB3.out.trans (HJ.out.2.mono (by have := HN1.out; omega))
          simp only [HT.out]
          clear HJ HT
          generalize butL es (s, k) = bs at *
          by_cases h1 : bs.length = 1
          · have HE3 : Hid (r = bs) := by show _ = _; rw [HE2.out, if_pos h1]
            have h1i : (bs.length : Int) = 1 := by omega
            clear HE2
            go_wp2_with fail
            go_ret
            rw [HE3.out]
            exact ⟨_, rfl, HPO.out, by rw [← HN0.out.1]; exact HBO.out⟩
          · have HE3 : Hid (r = []) := by show _ = _; rw [HE2.out, if_neg h1]
            have h1i : ¬ (bs.length : Int) = 1 := by omega
            clear HE2
            go_wp2_with fail
            go_ret
            rw [HE3.out]
            exact ⟨_, rfl, Prs.nil _ _, by rw [← HN0.out.1]; exact HBO.out⟩

end Go.Proofs.YtagkgejdammflaaGreat
