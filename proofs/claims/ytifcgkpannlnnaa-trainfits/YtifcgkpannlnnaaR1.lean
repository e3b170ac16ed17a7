/- Contracts: the document's node, Ends, Point. -/
import Derived.Test.YtifcgkpannlnnaaG13
namespace Go.Proofs.Ytifcgkpannlnnaa
open Go.RowKit Fl
set_option maxRecDepth 100000

theorem LayV.open_ {w : World} {D : Nat} {v : Value} {L : Lay} (h : LayV w D v L) : ∃ A0 k0 c0 A1 m1 c1 A2 k2 c2 A3 m3 c3 A4 k4 c4 t0 t1 t2 t3 t4, v = .agg #[.slice A0 k0 c0, .slice A1 m1 c1, .slice A2 k2 c2, .slice A3 m3 c3, .slice A4 k4 c4, .int .i64 t0, .int .i64 t1, .int .i64 t2, .int .i64 t3, .int .i64 t4] ∧ L.secs.length = m1 ∧ L.points.length = m3 ∧ Secs w D (.slice A1 m1 c1) L.secs ∧ Pts w D (.slice A3 m3 c3) L.points := by
  obtain ⟨vN, vS, vP, vQ, vR, ps, rfl, hd⟩ := h
  obtain ⟨A1, c1, hv1, -⟩ := id hd.s
  obtain ⟨A3, c3, hv3, -⟩ := id hd.q
  obtain ⟨vs, ⟨A2, c2, hv2, -, -⟩, -, -⟩ := id hd.p
  obtain ⟨A0, c0, hv0, -⟩ := id hd.n
  obtain ⟨vs4, ⟨A4, c4, hv4, -, -⟩, -, -⟩ := id hd.r
  subst hv1 hv3 hv2 hv0 hv4
  exact ⟨A0, _, c0, A1, _, c1, A2, _, c2, A3, _, c3, A4, _, c4, _, _, _, _, _, rfl, rfl, rfl, hd.s, hd.q⟩

theorem LayV.keep {w w' : World} {B D : Nat} {v : Value} {L : Lay} (h : LayV w D v L) (hb : Below B w w') (hD : D ≤ B) : LayV w' D v L := h.mono (Nat.le_refl _) fun p hp => hb.cell (p := p) (Nat.lt_of_lt_of_le hp hD)

set_option maxHeartbeats 2000000 in
theorem refPoint_any (w : World) (D : Nat) (v : Value) (L : Lay) (n : Int) (h : LayV w D v L) (hD : D ≤ w.heap.size) (hL : Fits L) :
    Calls Try.prog 53 #[v, .int .i64 n] w fun e w' => e = .returned (.int .i64 (pointL L.points n)) ∧ Below w.heap.size w w' := by
  obtain ⟨A0, k0, c0, A1, m1, c1, A2, k2, c2, A3, m3, c3, A4, k4, c4, t0, t1, t2, t3, t4, rfl, hm1, hm3, hSe, hPo⟩ := h.open_
  have hq := hL.q
  have hb0 := (Below.refl w.heap.size w).alloc (Nat.le_refl _) (.cells #[.slice A0 k0 c0, .slice A1 m1 c1, .slice A2 k2 c2, .slice A3 m3 c3, .slice A4 k4 c4, .int .i64 t0, .int .i64 t1, .int .i64 t2, .int .i64 t3, .int .i64 t4] 36)
  have HB0 := Lib.hid hb0
  have HRL := Lib.hid (Row.new w 36 #[.slice A0 k0 c0, .slice A1 m1 c1, .slice A2 k2 c2, .slice A3 m3 c3, .slice A4 k4 c4, .int .i64 t0, .int .i64 t1, .int .i64 t2, .int .i64 t3, .int .i64 t4])
  have HP : Hid (Pts (w.alloc (.cells #[.slice A0 k0 c0, .slice A1 m1 c1, .slice A2 k2 c2, .slice A3 m3 c3, .slice A4 k4 c4, .int .i64 t0, .int .i64 t1, .int .i64 t2, .int .i64 t3, .int .i64 t4] 36)) D (.slice A3 m3 c3) L.points) := hPo.mono (Nat.le_refl _) (fun p hp => hb0.cell (p := p) (Nat.lt_of_lt_of_le hp hD))
  have HM3 := Lib.hid hm3
  obtain ⟨r, hr⟩ : ∃ r, pointL L.points n = r := ⟨_, rfl⟩
  rw [hr]
  have HR := Lib.hid hr
  rw [hm3] at hq
  clear hr hm3 hb0 h hSe hPo hm1 hL
  go_enter Try.func53, Try.ntmps53
  go_upto_region 1 with (fail)
  obtain ⟨n0, hn0⟩ : ∃ n, n = w.heap.size := ⟨_, rfl⟩
  rw [← hn0] at HRL HB0 ⊢
  have HN0 := Lib.hid hn0
  clear hn0 hD
  generalize w.alloc (.cells #[.slice A0 k0 c0, .slice A1 m1 c1, .slice A2 k2 c2, .slice A3 m3 c3, .slice A4 k4 c4, .int .i64 t0, .int .i64 t1, .int .i64 t2, .int .i64 t3, .int .i64 t4] 36) = W0 at *
  have f3 := HRL.out.cell 3
  simp only [List.getElem?_toArray, List.getElem?_cons_zero, List.getElem?_cons_succ] at f3
  go_wp2_with fail
  go_loop [5] (fun k => ∃ i : Nat, i ≤ m3 ∧ k = .int .i64 i ∧ Hid (∀ j (hj : j < L.points.length), j < i → L.points[j].1 ≠ n)) (fun k => m3 - (intOf k).toNat)
  case atStart => exact ⟨0, Nat.zero_le _, rfl, fun j _ hj => absurd hj (by omega)⟩
  case round =>
    obtain ⟨i, hi, rfl, HJ⟩ := hrel
    by_cases hlt : i < m3
    · have him : i < L.points.length := by have := HM3.out; omega
      obtain ⟨b, o, hA, -, q0, -, -, -⟩ := HP.out.at i him
      subst hA
      have HQ1 : Hid (L.points[i].1 = n → r = (i : Int)) := fun e => by rw [← HR.out]; exact pointL_at him e HJ.out
      have HQ2 : Hid (L.points[i].1 ≠ n → ∀ j (hj : j < L.points.length), j < i + 1 → L.points[j].1 ≠ n) := fun e j hj hji => by
        rcases Nat.lt_or_ge j i with c | c
        · exact HJ.out j hj c
        · obtain rfl : j = i := by omega
          exact e
      obtain ⟨z, hz⟩ : ∃ z, L.points[i].1 = z := ⟨_, rfl⟩
      rw [hz] at q0 HQ1 HQ2
      clear hz
      by_cases he : z = n
      · have HF := Lib.hid (HQ1.out he)
        subst he
        go_wp2_with fail
        go_ret
        exact ⟨ret_int HF.out.symm, by rw [← HN0.out]; exact HB0.out⟩
      · have HF := Lib.hid (HQ2.out he)
        go_wp2_with fail
        go_round
        case rel => exact ⟨i + 1, by omega, by go_num, HF⟩
        case measure => simp [intOf]; omega
    · have HF : Hid (r = -1) := by
        show _ = _
        rw [← HR.out]
        exact pointL_none fun j hj => HJ.out j hj (by have := HM3.out; omega)
      go_wp2_with fail
      go_ret
      exact ⟨ret_int HF.out.symm, by rw [← HN0.out]; exact HB0.out⟩

end Go.Proofs.Ytifcgkpannlnnaa
