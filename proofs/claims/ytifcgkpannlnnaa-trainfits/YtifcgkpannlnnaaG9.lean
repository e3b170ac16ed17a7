/- Contracts: Around. -/
import Derived.Test.YtifcgkpannlnnaaG8
namespace Go.Proofs.Ytifcgkpannlnnaa
open Go.RowKit Fl
set_option maxRecDepth 100000

/-- The ends at which a train that leaves at an end may come into the next section. -/
def aroundL (L : Lay) (e : Int × Int) : List (Int × Int) := match nodeL L.secs e with
  | none => []
  | some n => if 0 ≤ pointL L.points n then
      (let p := L.points.getD (pointL L.points n).toNat (0, 0, 0, 0)
       throughL L.secs p e.1 [p.2.2.1, p.2.2.2])
    else acrossL (endsL L.secs n) e

theorem pointL_lt {ps : List (Int × Int × Int × Int)} {n : Int} (h : 0 ≤ pointL ps n) : ∃ i : Nat, pointL ps n = (i : Int) ∧ i < ps.length := by
  unfold pointL at h ⊢
  cases e : ps.findIdx? (fun p => decide (p.1 = n)) with
  | none => rw [e] at h; simp at h
  | some i =>
    refine ⟨i, rfl, ?_⟩
    rw [List.findIdx?_eq_some_iff_getElem] at e
    exact e.1

theorem Gr.points {w : World} {D g : Nat} {vS vQ vP : Value} {L : Lay} (h : Gr w D g vS vQ vP L) : ∃ A c, vQ = .slice A L.points.length c := by
  obtain ⟨A, c, hv, _⟩ := h.q; exact ⟨A, c, hv⟩

theorem Rd.two (w : World) (a b : Int) : Rd (w.alloc (.cells #[.int .i64 a, .int .i64 b] 3)) (w.alloc (.cells #[.int .i64 a, .int .i64 b] 3)).heap.size (.slice (some ⟨w.heap.size, 0, none⟩) 2 2) (ivals [a, b]) := by
  have h := World.ownsRow_lit (base := 0) (e := 3) (size := 1) w #[.int .i64 a, .int .i64 b] 2 (Nat.zero_le _) (by unfold maxLen; omega) rfl
  exact Rd.of_own h

set_option maxHeartbeats 4000000 in
theorem around_any (w : World) (D : Nat) (v : Value) (L : Lay) (s k : Int) (h : IsGr w D v L) (hD : D ≤ w.heap.size) (hL : Fits L) :
    Calls Try.prog 62 #[v, .agg #[.int .i64 s, .int .i64 k]] w (RetEnds (aroundL L (s, k)) w) := by
  have hb0 := (Below.refl w.heap.size w).alloc (Nat.le_refl _) (.cells #[.int .i64 s, .int .i64 k] 85)
  have HI := Lib.hid (h.keep hb0 hD)
  have HB0 := Lib.hid hb0
  have HRW := Lib.hid (Row.new w 85 #[.int .i64 s, .int .i64 k])
  obtain ⟨g, vS, vQ, vP, rfl, -⟩ := h
  have hD1 : D ≤ (w.alloc (.cells #[.int .i64 s, .int .i64 k] 85)).heap.size := by simp; omega
  clear hb0
  have HL := Lib.hid hL
  have hq := hL.q
  clear hL
  obtain ⟨r, hr⟩ : ∃ r, aroundL L (s, k) = r := ⟨_, rfl⟩
  rw [hr]
  have HE : Hid (r = match nodeL L.secs (s, k) with
    | none => []
    | some n => if 0 ≤ pointL L.points n then
        (let p := L.points.getD (pointL L.points n).toNat (0, 0, 0, 0)
         throughL L.secs p s [p.2.2.1, p.2.2.2])
      else acrossL (endsL L.secs n) (s, k)) := by rw [← hr]; rfl
  clear hr
  go_enter Try.func62, Try.ntmps62
  go_upto_region 1 with (fail)
  obtain ⟨n0, hn0⟩ : ∃ n, n = w.heap.size := ⟨_, rfl⟩
  rw [← hn0] at HRW HB0 ⊢
  have HN0 := Lib.hid hn0
  clear hn0 hD
  generalize w.alloc (.cells #[.int .i64 s, .int .i64 k] 85) = W0 at *
  have e0 := HRW.out.cell 0; have e1 := HRW.out.cell 1
  simp only [List.getElem?_toArray, List.getElem?_cons_zero, List.getElem?_cons_succ] at e0 e1
  go_wp2_with fail
  refine (node_any W0 D _ L s k HI.out hD1 HL.out).mono ?_; rintro e w1 ⟨rfl, hb1⟩
  have HB1 : Hid (Below n0 w w1) := HB0.out.trans (hb1.mono (by have := HRW.out.lt; omega))
  have HR1 := Lib.hid (Below.row hb1 HRW.out HRW.out.lt)
  have HI1 := Lib.hid (HI.out.keep hb1 hD1)
  have hD2 : D ≤ w1.heap.size := by have := hb1.size; omega
  clear hb1 e0 e1 HI HRW HB0 hD1
  cases hn : nodeL L.secs (s, k) with
  | none =>
    rw [hn] at HE
    have HE2 : Hid (r = []) := HE.out
    clear HE hn
    simp only [Option.getD_none, Option.isSome_none]
    go_wp2_with fail
    go_ret
    rw [HE2.out]
    exact ⟨_, rfl, Prs.nil _ _, by rw [← HN0.out]; exact HB1.out⟩
  | some n =>
    rw [hn] at HE
    simp only [Option.getD_some, Option.isSome_some] at HE ⊢
    clear hn
    go_wp2_with fail
    refine (point_any w1 D _ L n HI1.out hD2 HL.out).mono ?_; rintro e w2 ⟨rfl, hb2⟩
    have HB2 : Hid (Below n0 w w2) := HB1.out.trans (hb2.mono (by have := HR1.out.lt; omega))
    have HR2 := Lib.hid (Below.row hb2 HR1.out HR1.out.lt)
    have HI2 := Lib.hid (HI1.out.keep hb2 hD2)
    have hD3 : D ≤ w2.heap.size := by have := hb2.size; omega
    clear hb2 HI1 HR1 HB1 hD2
    by_cases hp : 0 ≤ pointL L.points n
    · obtain ⟨i, hi, hlt⟩ := pointL_lt hp
      have HE2 : Hid (r = throughL L.secs L.points[i] s [L.points[i].2.2.1, L.points[i].2.2.2]) := by
        show _ = _
        have h1 := HE.out
        rw [if_pos hp, hi] at h1
        have h2 : L.points.getD i (0, 0, 0, 0) = L.points[i] := by simp [List.getD, hlt]
        simp only [Int.toNat_natCast, h2] at h1
        exact h1
      rw [hi]
      clear HE hi hp
      obtain ⟨g', vS', vQ', vP', e1, hg⟩ := HI2.out
      injection e1 with e1
      injection e1 with e1
      injection e1 with e1
      subst e1
      obtain ⟨A, c, hA⟩ := hg.points
      subst hA
      have f1 := hg.row.cell 1
      simp only [List.getElem?_toArray, List.getElem?_cons_zero, List.getElem?_cons_succ] at f1
      obtain ⟨b, o, rfl, -, c0, c1, c2, c3⟩ := hg.q.at i hlt
      clear hg
      generalize L.points[i] = z at *
      generalize hm : L.points.length = m at *
      obtain ⟨z0, z1, z2, z3⟩ := z
      simp only at c0 c1 c2 c3 HE2
      have HM := Lib.hid hm
      clear hm
      have hb3 := (Below.refl w2.heap.size w2).alloc (Nat.le_refl _) (.cells #[.int .i64 z0, .int .i64 z1, .int .i64 z2, .int .i64 z3] 72)
      have HB3 : Hid (Below n0 w (w2.alloc (.cells #[.int .i64 z0, .int .i64 z1, .int .i64 z2, .int .i64 z3] 72))) := HB2.out.trans (hb3.mono (by have := HR2.out.lt; omega))
      have HR3 := Lib.hid (HR2.out.alloc (.cells #[.int .i64 z0, .int .i64 z1, .int .i64 z2, .int .i64 z3] 72))
      have HI3 := Lib.hid (HI2.out.keep hb3 hD3)
      have HS3 := Lib.hid (Row.new w2 72 #[.int .i64 z0, .int .i64 z1, .int .i64 z2, .int .i64 z3])
      have hD4 : D ≤ (w2.alloc (.cells #[.int .i64 z0, .int .i64 z1, .int .i64 z2, .int .i64 z3] 72)).heap.size := by simp; omega
      clear hb3 HI2 HR2 HB2
      go_upto_region 7 with (fail)
      obtain ⟨a3, ha3⟩ : ∃ n, n = w2.heap.size := ⟨_, rfl⟩
      rw [← ha3] at HS3 ⊢
      clear ha3 c0 c1 c2 c3 f1 hD3
      generalize w2.alloc (.cells #[.int .i64 z0, .int .i64 z1, .int .i64 z2, .int .i64 z3] 72) = w3 at *
      have e0 := HR3.out.cell 0; have e1 := HR3.out.cell 1
      have p0 := HS3.out.cell 0; have p1 := HS3.out.cell 1; have p2 := HS3.out.cell 2; have p3 := HS3.out.cell 3
      simp only [List.getElem?_toArray, List.getElem?_cons_zero, List.getElem?_cons_succ] at e0 e1 p0 p1 p2 p3
      have hb4 := (Below.refl w3.heap.size w3).alloc (Nat.le_refl _) (.cells #[.int .i64 z2, .int .i64 z3] 3)
      have HB4 : Hid (Below n0 w (w3.alloc (.cells #[.int .i64 z2, .int .i64 z3] 3))) := HB3.out.trans (hb4.mono (by have := HR3.out.lt; omega))
      have HI4 := Lib.hid (HI3.out.keep hb4 hD4)
      have HRD := Lib.hid (Rd.two w3 z2 z3)
      clear hb4
      go_wp2_with fail
      refine (through_any (w3.alloc (.cells #[.int .i64 z2, .int .i64 z3] 3)) D _ _ L z0 z1 z2 z3 s [z2, z3] HI4.out (by simp; omega) HL.out HRD.out (by simp) (by simp)).mono ?_; rintro e w5 ⟨v5, rfl, hp5, hb5⟩
      have HP5 := Lib.hid hp5
      have HB5 : Hid (Below n0 w w5) := HB4.out.trans (hb5.mono (by have := HR3.out.lt; simp; omega))
      clear hp5 hb5
      go_wp2_with fail
      go_ret
      rw [HE2.out]
      exact ⟨_, rfl, HP5.out, by rw [← HN0.out]; exact HB5.out⟩
    · have HE2 : Hid (r = acrossL (endsL L.secs n) (s, k)) := by show _ = _; rw [HE.out, if_neg hp]
      clear HE
      have e0 := HR2.out.cell 0; have e1 := HR2.out.cell 1
      simp only [List.getElem?_toArray, List.getElem?_cons_zero, List.getElem?_cons_succ] at e0 e1
      generalize pointL L.points n = pp at *
      go_wp2_with fail
      refine (across_any w2 D _ L s k n HI2.out hD3 HL.out).mono ?_; rintro e w3 ⟨v3, rfl, hp3, hb3⟩
      have HP3 := Lib.hid hp3
      have HB3 : Hid (Below n0 w w3) := HB2.out.trans (hb3.mono (by have := HR2.out.lt; omega))
      clear hp3 hb3
      go_wp2_with fail
      go_ret
      rw [HE2.out]
      exact ⟨_, rfl, HP3.out, by rw [← HN0.out]; exact HB3.out⟩

end Go.Proofs.Ytifcgkpannlnnaa
