/- Contracts: Next. -/
import Derived.Test.YtpipkbdkkbcooaaPathNil
namespace Go.Proofs.Ytpipkbdkkbcooaa
open Go.RowKit Fl
set_option maxRecDepth 100000

/-- The side of a point that is open. -/
def openL (p : Int × Int × Int × Int) (b : Bool) : Int := if b then p.2.2.2 else p.2.2.1
/-- The ends to which the track leads, as the points stand. -/
def nextEs (L : Lay) (e : Int × Int) (right : List Bool) : List (Int × Int) :=
  if 0 ≤ pointAtL L e then throughL L.secs (L.points.getD (pointAtL L e).toNat (0, 0, 0, 0)) e.1 [openL (L.points.getD (pointAtL L e).toNat (0, 0, 0, 0)) (right.getD (pointAtL L e).toNat false)]
  else aroundL L e
def nextL (L : Lay) (e : Int × Int) (right : List Bool) : Option (Int × Int) := (nextEs L e right).head?

theorem pointAtL_lt {L : Lay} {e : Int × Int} (h : 0 ≤ pointAtL L e) : ∃ i : Nat, pointAtL L e = (i : Int) ∧ i < L.points.length := by
  unfold pointAtL at h ⊢
  cases hn : nodeL L.secs e with
  | none => rw [hn] at h; simp at h
  | some n => rw [hn] at h; exact pointL_lt h

def RetNext (r : Option (Int × Int)) (w : World) (e : Ending) (w' : World) : Prop :=
  e = .returned (.tuple #[.agg #[.int .i64 (r.getD (0, 0)).1, .int .i64 (r.getD (0, 0)).2], .bool r.isSome]) ∧ Below w.heap.size w w'

theorem Rd.lone (w : World) (a : Int) : Rd (w.alloc (.cells #[.int .i64 a] 3)) (w.alloc (.cells #[.int .i64 a] 3)).heap.size (.slice (some ⟨w.heap.size, 0, none⟩) 1 1) (ivals [a]) := by
  have h := World.ownsRow_lit (base := 0) (e := 3) (size := 1) w #[.int .i64 a] 1 (Nat.zero_le _) (by unfold maxLen; omega) rfl
  exact Rd.of_own h

set_option maxHeartbeats 8000000 in
theorem next_any (w : World) (D : Nat) (v : Value) (L : Lay) (s k : Int) (A : Option Addr) (c : Nat) (right : List Bool) (h : IsGr w D v L) (hD : D ≤ w.heap.size) (hL : Fits L) (hr : Rd w w.heap.size (.slice A right.length c) (cvals right)) :
    Calls Try.prog 20 #[v, .agg #[.int .i64 s, .int .i64 k], .slice A right.length c] w (RetNext (nextL L (s, k) right) w) := by
  have hb0 := (Below.refl w.heap.size w).alloc (Nat.le_refl _) (.cells #[.int .i64 s, .int .i64 k] 41)
  have hb1 := hb0.alloc (by simp) (.cells #[.int .i64 0, .int .i64 0] 41)
  have HI := Lib.hid (h.keep hb1 hD)
  have HB0 := Lib.hid hb1
  have HRR := Lib.hid (hr.up hb1)
  have HRW := Lib.hid ((Row.new w 41 #[.int .i64 s, .int .i64 k]).alloc (.cells #[.int .i64 0, .int .i64 0] 41))
  have hro := Row.new (w.alloc (.cells #[.int .i64 s, .int .i64 k] 41)) 41 #[.int .i64 0, .int .i64 0]
  rw [World.size_alloc] at hro
  have HRO := Lib.hid hro
  obtain ⟨g, vS, vQ, vP, rfl, -⟩ := h
  have HL := Lib.hid hL
  have hD1 : D ≤ ((w.alloc (.cells #[.int .i64 s, .int .i64 k] 41)).alloc (.cells #[.int .i64 0, .int .i64 0] 41)).heap.size := by simp; omega
  clear hb0 hb1 hro hr hL
  obtain ⟨r, hr⟩ : ∃ r, nextL L (s, k) right = r := ⟨_, rfl⟩
  rw [hr]
  have HE : Hid (r = (nextEs L (s, k) right).head?) := hr.symm
  clear hr
  go_enter Try.func20, Try.ntmps20
  go_upto_region 1 with (fail)
  obtain ⟨n0, hn0⟩ : ∃ n, n = w.heap.size := ⟨_, rfl⟩
  obtain ⟨n1, hn1⟩ : ∃ n, n = n0 + 1 := ⟨_, rfl⟩
  rw [← hn0] at HRW HB0 HRO ⊢
  rw [← hn1] at HRO ⊢
  have HN : Hid (n0 = w.heap.size ∧ n1 = n0 + 1) := ⟨hn0, hn1⟩
  clear hn0 hn1 hD
  generalize (w.alloc (.cells #[.int .i64 s, .int .i64 k] 41)).alloc (.cells #[.int .i64 0, .int .i64 0] 41) = W0 at *
  have e0 := HRW.out.cell 0; have e1 := HRW.out.cell 1
  simp only [List.getElem?_toArray, List.getElem?_cons_zero, List.getElem?_cons_succ] at e0 e1
  go_wp2_with fail
  refine (around_any W0 D _ L s k HI.out hD1 HL.out).mono ?_; rintro e w1 ⟨v1, rfl, hp1, hb1⟩
  have HB1 : Hid (Below n0 w w1) := HB0.out.trans (hb1.mono (by have := HRW.out.lt; omega))
  have HR1 := Lib.hid (Below.row hb1 HRW.out HRW.out.lt)
  have HO1 := Lib.hid (Below.row hb1 HRO.out HRO.out.lt)
  have HI1 := Lib.hid (HI.out.keep hb1 hD1)
  have HRR1 := Lib.hid (HRR.out.up hb1)
  have hD2 : D ≤ w1.heap.size := by have := hb1.size; omega
  have HP1 := Lib.hid hp1
  obtain ⟨A5, c5, hv5, -⟩ := id hp1
  subst hv5
  clear hb1 hp1 e0 e1 HI HRW HB0 HRO HRR hD1
  have e0 := HR1.out.cell 0; have e1 := HR1.out.cell 1
  simp only [List.getElem?_toArray, List.getElem?_cons_zero, List.getElem?_cons_succ] at e0 e1
  go_wp2_with fail
  refine (pointAt_any w1 D _ L s k HI1.out hD2 HL.out).mono ?_; rintro e w2 ⟨rfl, hb2⟩
  have HB2 : Hid (Below n0 w w2) := HB1.out.trans (hb2.mono (by have := HR1.out.lt; omega))
  have HR2 := Lib.hid (Below.row hb2 HR1.out HR1.out.lt)
  have HO2 := Lib.hid (Below.row hb2 HO1.out HO1.out.lt)
  have HI2 := Lib.hid (HI1.out.keep hb2 hD2)
  have HRR2 := Lib.hid (HRR1.out.up hb2)
  have HP2 := Lib.hid (HP1.out.up hb2)
  have hD3 : D ≤ w2.heap.size := by have := hb2.size; omega
  clear hb2 HI1 HR1 HO1 HB1 HRR1 HP1 hD2 e0 e1
  by_cases hp : 0 ≤ pointAtL L (s, k)
  · obtain ⟨i, hi, hlt⟩ := pointAtL_lt hp
    have h2 : L.points.getD i (0, 0, 0, 0) = L.points[i] := by simp [List.getD, hlt]
    have HE2 : Hid (r = (throughL L.secs L.points[i] s [openL L.points[i] (right.getD i false)]).head?) := by
      show _ = _
      have h1 := HE.out
      unfold nextEs at h1
      rw [if_pos hp, hi] at h1
      simp only [Int.toNat_natCast, h2] at h1
      exact h1
    rw [hi]
    clear HE hi hp h2 HP2
    obtain ⟨g', vS', vQ', vP', e1, hg⟩ := HI2.out
    injection e1 with e1
    injection e1 with e1
    injection e1 with e1
    subst e1
    obtain ⟨A, c, hA⟩ := hg.points
    subst hA
    have f1 := hg.row.cell 1
    simp only [List.getElem?_toArray, List.getElem?_cons_zero, List.getElem?_cons_succ] at f1
    obtain ⟨b, o, rfl, -, c0, c1, c2, c3⟩ := hg.q.at i hlt
    have hq := HL.out.q
    clear hg
    generalize L.points[i] = z at *
    generalize hm : L.points.length = m at *
    obtain ⟨z0, z1, z2, z3⟩ := z
    simp only at c0 c1 c2 c3 HE2
    have HM := Lib.hid hm
    clear hm
    have hb3 := (Below.refl w2.heap.size w2).alloc (Nat.le_refl _) (.cells #[.int .i64 z0, .int .i64 z1, .int .i64 z2, .int .i64 z3] 74)
    have HB3 : Hid (Below n0 w (w2.alloc (.cells #[.int .i64 z0, .int .i64 z1, .int .i64 z2, .int .i64 z3] 74))) := HB2.out.trans (hb3.mono (by have := HR2.out.lt; omega))
    have HR3 := Lib.hid (HR2.out.alloc (.cells #[.int .i64 z0, .int .i64 z1, .int .i64 z2, .int .i64 z3] 74))
    have HO3 := Lib.hid (HO2.out.alloc (.cells #[.int .i64 z0, .int .i64 z1, .int .i64 z2, .int .i64 z3] 74))
    have HI3 := Lib.hid (HI2.out.keep hb3 hD3)
    have HRR3 := Lib.hid (HRR2.out.up hb3)
    have HS3 := Lib.hid (Row.new w2 74 #[.int .i64 z0, .int .i64 z1, .int .i64 z2, .int .i64 z3])
    have hD4 : D ≤ (w2.alloc (.cells #[.int .i64 z0, .int .i64 z1, .int .i64 z2, .int .i64 z3] 74)).heap.size := by simp; omega
    clear hb3 HI2 HR2 HO2 HB2 HRR2
    go_upto_region 5 with (fail)
    obtain ⟨a3, ha3⟩ : ∃ n, n = w2.heap.size := ⟨_, rfl⟩
    rw [← ha3] at HS3 ⊢
    clear ha3 c0 c1 c2 c3 f1 hD3
    generalize w2.alloc (.cells #[.int .i64 z0, .int .i64 z1, .int .i64 z2, .int .i64 z3] 74) = w3 at *
    have p0 := HS3.out.cell 0; have p1 := HS3.out.cell 1; have p2 := HS3.out.cell 2; have p3 := HS3.out.cell 3
    simp only [List.getElem?_toArray, List.getElem?_cons_zero, List.getElem?_cons_succ] at p0 p1 p2 p3
    have hil : right.getD i false = false ∨ ∃ h : i < right.length, right[i] = true := by
      by_cases h : i < right.length
      · rw [List.getD, List.getElem?_eq_getElem h]
        cases hh : right[i] with
        | true => exact Or.inr ⟨h, hh⟩
        | false => exact Or.inl rfl
      · left; rw [List.getD, List.getElem?_eq_none (by omega)]; rfl
    rcases hil with hf | ⟨hri, hrt⟩
    · rw [hf] at HE2
      change Hid (r = (throughL L.secs (z0, z1, z2, z3) s [z2]).head?) at HE2
      by_cases hri : i < right.length
      · obtain ⟨br, or, hAr, -, cr⟩ := HRR3.out.at (i := i) (u := .bool false) (by rw [cvals_get right i hri]; rw [List.getD, List.getElem?_eq_getElem hri] at hf; simpa using hf)
        subst hAr
        clear hf
        generalize right.length = rl at *
        go_upto_region 8 with (fail)
        clear p0 p1 p2 p3
        have e0 := HR3.out.cell 0; have e1 := HR3.out.cell 1
        have p0 := HS3.out.cell 0; have p1 := HS3.out.cell 1; have p2 := HS3.out.cell 2; have p3 := HS3.out.cell 3
        simp only [List.getElem?_toArray, List.getElem?_cons_zero, List.getElem?_cons_succ] at e0 e1 p0 p1 p2 p3
        have hb4 := (Below.refl w3.heap.size w3).alloc (Nat.le_refl _) (.cells #[.int .i64 z2] 3)
        have HB4 : Hid (Below n0 w (w3.alloc (.cells #[.int .i64 z2] 3))) := HB3.out.trans (hb4.mono (by have := HR3.out.lt; omega))
        have HI4 := Lib.hid (HI3.out.keep hb4 hD4)
        have HO4 := Lib.hid (HO3.out.alloc (.cells #[.int .i64 z2] 3))
        have HRD := Lib.hid (Rd.lone w3 z2)
        clear hb4
        go_wp2_with fail
        refine (through_any (w3.alloc (.cells #[.int .i64 z2] 3)) D _ _ L z0 z1 z2 z3 s [z2] HI4.out (by simp; omega) HL.out HRD.out (by simp) (by simp)).mono ?_; rintro e w5 ⟨v5, rfl, hp5, hb5⟩
        have HB5 : Hid (Below n0 w w5) := HB4.out.trans (hb5.mono (by have := HR3.out.lt; simp; omega))
        have HO5 := Lib.hid (Below.row hb5 HO4.out HO4.out.lt)
        obtain ⟨A7, c7, hv7, -⟩ := id hp5
        subst hv7
        have HP5 := Lib.hid hp5
        clear hp5 hb5 e0 e1 p0 p1 p2 p3 HB4 HI4 HO4 HRD
        generalize throughL L.secs (z0, z1, z2, z3) s [z2] = ys at *
        have o0 := HO5.out.cell 0; have o1 := HO5.out.cell 1; have q0 := HO5.out.frozen 0; have q1 := HO5.out.frozen 1
        simp only [List.getElem?_toArray, List.getElem?_cons_zero, List.getElem?_cons_succ] at o0 o1
        rcases Nat.eq_zero_or_pos ys.length with h0 | h0
        · have h0i : (ys.length : Int) = 0 := by omega
          have HR0 : Hid (r = none) := by show _ = _; rw [HE2.out, List.length_eq_zero_iff.1 h0]; rfl
          clear h0
          go_wp2_with fail
          have r1 : Row (w5.setCell ⟨n1, 0, none⟩ (.int .i64 0)) n1 41 #[.int .i64 0, .int .i64 0] := HO5.out.set 0 _
          have r2 : Row ((w5.setCell ⟨n1, 0, none⟩ (.int .i64 0)).setCell ⟨n1, 1, none⟩ (.int .i64 0)) n1 41 #[.int .i64 0, .int .i64 0] := r1.set 1 _
          refine bodyPost_ret (results_cell_tmp_row rfl _ _ n1 41 #[.int .i64 0, .int .i64 0] (0, 0) _ rfl r2 Try.underlying41 rfl Try.size41) rfl ?_
          have hn := HN.out
          rw [HR0.out]
          exact ⟨rfl, by rw [← hn.1]; exact (HB5.out.setCell (p := ⟨n1, 0, none⟩) (by show n0 ≤ n1; omega) _).setCell (p := ⟨n1, 1, none⟩) (by show n0 ≤ n1; omega) _⟩
        · have h0i : ¬ (ys.length : Int) = 0 := by omega
          have h0j : (0 : Int) < (ys.length : Int) := by omega
          obtain ⟨b9, o9, hA, -, c0, c1⟩ := HP5.out.at 0 h0
          subst hA
          simp only [Nat.zero_mul, Nat.add_zero] at c0 c1
          have HR0 : Hid (r = some ys[0]) := by show _ = _; rw [HE2.out, List.head?_eq_getElem?, List.getElem?_eq_getElem h0]
          generalize ys[0] = z9 at *
          obtain ⟨y0, y1⟩ := z9
          simp only at c0 c1
          go_wp2_with fail
          have r1 : Row (w5.setCell ⟨n1, 0, none⟩ (.int .i64 y0)) n1 41 #[.int .i64 y0, .int .i64 0] := HO5.out.set 0 _
          have r2 : Row ((w5.setCell ⟨n1, 0, none⟩ (.int .i64 y0)).setCell ⟨n1, 1, none⟩ (.int .i64 y1)) n1 41 #[.int .i64 y0, .int .i64 y1] := r1.set 1 _
          refine bodyPost_ret (results_cell_tmp_row rfl _ _ n1 41 #[.int .i64 y0, .int .i64 y1] (0, 0) _ rfl r2 Try.underlying41 rfl Try.size41) rfl ?_
          have hn := HN.out
          rw [HR0.out]
          exact ⟨rfl, by rw [← hn.1]; exact (HB5.out.setCell (p := ⟨n1, 0, none⟩) (by show n0 ≤ n1; omega) _).setCell (p := ⟨n1, 1, none⟩) (by show n0 ≤ n1; omega) _⟩
      · have hri2 : ¬ (i : Int) < (right.length : Int) := by omega
        clear hf
        generalize right.length = rl at *
        go_upto_region 8 with (fail)
        clear p0 p1 p2 p3
        have e0 := HR3.out.cell 0; have e1 := HR3.out.cell 1
        have p0 := HS3.out.cell 0; have p1 := HS3.out.cell 1; have p2 := HS3.out.cell 2; have p3 := HS3.out.cell 3
        simp only [List.getElem?_toArray, List.getElem?_cons_zero, List.getElem?_cons_succ] at e0 e1 p0 p1 p2 p3
        have hb4 := (Below.refl w3.heap.size w3).alloc (Nat.le_refl _) (.cells #[.int .i64 z2] 3)
        have HB4 : Hid (Below n0 w (w3.alloc (.cells #[.int .i64 z2] 3))) := HB3.out.trans (hb4.mono (by have := HR3.out.lt; omega))
        have HI4 := Lib.hid (HI3.out.keep hb4 hD4)
        have HO4 := Lib.hid (HO3.out.alloc (.cells #[.int .i64 z2] 3))
        have HRD := Lib.hid (Rd.lone w3 z2)
        clear hb4
        go_wp2_with fail
        refine (through_any (w3.alloc (.cells #[.int .i64 z2] 3)) D _ _ L z0 z1 z2 z3 s [z2] HI4.out (by simp; omega) HL.out HRD.out (by simp) (by simp)).mono ?_; rintro e w5 ⟨v5, rfl, hp5, hb5⟩
        have HB5 : Hid (Below n0 w w5) := HB4.out.trans (hb5.mono (by have := HR3.out.lt; simp; omega))
        have HO5 := Lib.hid (Below.row hb5 HO4.out HO4.out.lt)
        obtain ⟨A7, c7, hv7, -⟩ := id hp5
        subst hv7
        have HP5 := Lib.hid hp5
        clear hp5 hb5 e0 e1 p0 p1 p2 p3 HB4 HI4 HO4 HRD
        generalize throughL L.secs (z0, z1, z2, z3) s [z2] = ys at *
        have o0 := HO5.out.cell 0; have o1 := HO5.out.cell 1; have q0 := HO5.out.frozen 0; have q1 := HO5.out.frozen 1
        simp only [List.getElem?_toArray, List.getElem?_cons_zero, List.getElem?_cons_succ] at o0 o1
        rcases Nat.eq_zero_or_pos ys.length with h0 | h0
        · have h0i : (ys.length : Int) = 0 := by omega
          have HR0 : Hid (r = none) := by show _ = _; rw [HE2.out, List.length_eq_zero_iff.1 h0]; rfl
          clear h0
          go_wp2_with fail
          have r1 : Row (w5.setCell ⟨n1, 0, none⟩ (.int .i64 0)) n1 41 #[.int .i64 0, .int .i64 0] := HO5.out.set 0 _
          have r2 : Row ((w5.setCell ⟨n1, 0, none⟩ (.int .i64 0)).setCell ⟨n1, 1, none⟩ (.int .i64 0)) n1 41 #[.int .i64 0, .int .i64 0] := r1.set 1 _
          refine bodyPost_ret (results_cell_tmp_row rfl _ _ n1 41 #[.int .i64 0, .int .i64 0] (0, 0) _ rfl r2 Try.underlying41 rfl Try.size41) rfl ?_
          have hn := HN.out
          rw [HR0.out]
          exact ⟨rfl, by rw [← hn.1]; exact (HB5.out.setCell (p := ⟨n1, 0, none⟩) (by show n0 ≤ n1; omega) _).setCell (p := ⟨n1, 1, none⟩) (by show n0 ≤ n1; omega) _⟩
        · have h0i : ¬ (ys.length : Int) = 0 := by omega
          have h0j : (0 : Int) < (ys.length : Int) := by omega
          obtain ⟨b9, o9, hA, -, c0, c1⟩ := HP5.out.at 0 h0
          subst hA
          simp only [Nat.zero_mul, Nat.add_zero] at c0 c1
          have HR0 : Hid (r = some ys[0]) := by show _ = _; rw [HE2.out, List.head?_eq_getElem?, List.getElem?_eq_getElem h0]
          generalize ys[0] = z9 at *
          obtain ⟨y0, y1⟩ := z9
          simp only at c0 c1
          go_wp2_with fail
          have r1 : Row (w5.setCell ⟨n1, 0, none⟩ (.int .i64 y0)) n1 41 #[.int .i64 y0, .int .i64 0] := HO5.out.set 0 _
          have r2 : Row ((w5.setCell ⟨n1, 0, none⟩ (.int .i64 y0)).setCell ⟨n1, 1, none⟩ (.int .i64 y1)) n1 41 #[.int .i64 y0, .int .i64 y1] := r1.set 1 _
          refine bodyPost_ret (results_cell_tmp_row rfl _ _ n1 41 #[.int .i64 y0, .int .i64 y1] (0, 0) _ rfl r2 Try.underlying41 rfl Try.size41) rfl ?_
          have hn := HN.out
          rw [HR0.out]
          exact ⟨rfl, by rw [← hn.1]; exact (HB5.out.setCell (p := ⟨n1, 0, none⟩) (by show n0 ≤ n1; omega) _).setCell (p := ⟨n1, 1, none⟩) (by show n0 ≤ n1; omega) _⟩
    · have hf : right.getD i false = true := by rw [List.getD, List.getElem?_eq_getElem hri]; simpa using hrt
      rw [hf] at HE2
      change Hid (r = (throughL L.secs (z0, z1, z2, z3) s [z3]).head?) at HE2
      obtain ⟨br, or, hAr, -, cr⟩ := HRR3.out.at (i := i) (u := .bool true) (by rw [cvals_get right i hri, hrt])
      subst hAr
      clear hf hrt
      generalize right.length = rl at *
      go_upto_region 8 with (fail)
      clear p0 p1 p2 p3
      have e0 := HR3.out.cell 0; have e1 := HR3.out.cell 1
      have p0 := HS3.out.cell 0; have p1 := HS3.out.cell 1; have p2 := HS3.out.cell 2; have p3 := HS3.out.cell 3
      simp only [List.getElem?_toArray, List.getElem?_cons_zero, List.getElem?_cons_succ] at e0 e1 p0 p1 p2 p3
      have hb4 := (Below.refl w3.heap.size w3).alloc (Nat.le_refl _) (.cells #[.int .i64 z3] 3)
      have HB4 : Hid (Below n0 w (w3.alloc (.cells #[.int .i64 z3] 3))) := HB3.out.trans (hb4.mono (by have := HR3.out.lt; omega))
      have HI4 := Lib.hid (HI3.out.keep hb4 hD4)
      have HO4 := Lib.hid (HO3.out.alloc (.cells #[.int .i64 z3] 3))
      have HRD := Lib.hid (Rd.lone w3 z3)
      clear hb4
      go_wp2_with fail
      refine (through_any (w3.alloc (.cells #[.int .i64 z3] 3)) D _ _ L z0 z1 z2 z3 s [z3] HI4.out (by simp; omega) HL.out HRD.out (by simp) (by simp)).mono ?_; rintro e w5 ⟨v5, rfl, hp5, hb5⟩
      have HB5 : Hid (Below n0 w w5) := HB4.out.trans (hb5.mono (by have := HR3.out.lt; simp; omega))
      have HO5 := Lib.hid (Below.row hb5 HO4.out HO4.out.lt)
      obtain ⟨A7, c7, hv7, -⟩ := id hp5
      subst hv7
      have HP5 := Lib.hid hp5
      clear hp5 hb5 e0 e1 p0 p1 p2 p3 HB4 HI4 HO4 HRD
      generalize throughL L.secs (z0, z1, z2, z3) s [z3] = ys at *
      have o0 := HO5.out.cell 0; have o1 := HO5.out.cell 1; have q0 := HO5.out.frozen 0; have q1 := HO5.out.frozen 1
      simp only [List.getElem?_toArray, List.getElem?_cons_zero, List.getElem?_cons_succ] at o0 o1
      rcases Nat.eq_zero_or_pos ys.length with h0 | h0
      · have h0i : (ys.length : Int) = 0 := by omega
        have HR0 : Hid (r = none) := by show _ = _; rw [HE2.out, List.length_eq_zero_iff.1 h0]; rfl
        clear h0
        go_wp2_with fail
        have r1 : Row (w5.setCell ⟨n1, 0, none⟩ (.int .i64 0)) n1 41 #[.int .i64 0, .int .i64 0] := HO5.out.set 0 _
        have r2 : Row ((w5.setCell ⟨n1, 0, none⟩ (.int .i64 0)).setCell ⟨n1, 1, none⟩ (.int .i64 0)) n1 41 #[.int .i64 0, .int .i64 0] := r1.set 1 _
        refine bodyPost_ret (results_cell_tmp_row rfl _ _ n1 41 #[.int .i64 0, .int .i64 0] (0, 0) _ rfl r2 Try.underlying41 rfl Try.size41) rfl ?_
        have hn := HN.out
        rw [HR0.out]
        exact ⟨rfl, by rw [← hn.1]; exact (HB5.out.setCell (p := ⟨n1, 0, none⟩) (by show n0 ≤ n1; omega) _).setCell (p := ⟨n1, 1, none⟩) (by show n0 ≤ n1; omega) _⟩
      · have h0i : ¬ (ys.length : Int) = 0 := by omega
        have h0j : (0 : Int) < (ys.length : Int) := by omega
        obtain ⟨b9, o9, hA, -, c0, c1⟩ := HP5.out.at 0 h0
        subst hA
        simp only [Nat.zero_mul, Nat.add_zero] at c0 c1
        have HR0 : Hid (r = some ys[0]) := by show _ = _; rw [HE2.out, List.head?_eq_getElem?, List.getElem?_eq_getElem h0]
        generalize ys[0] = z9 at *
        obtain ⟨y0, y1⟩ := z9
        simp only at c0 c1
        go_wp2_with fail
        have r1 : Row (w5.setCell ⟨n1, 0, none⟩ (.int .i64 y0)) n1 41 #[.int .i64 y0, .int .i64 0] := HO5.out.set 0 _
        have r2 : Row ((w5.setCell ⟨n1, 0, none⟩ (.int .i64 y0)).setCell ⟨n1, 1, none⟩ (.int .i64 y1)) n1 41 #[.int .i64 y0, .int .i64 y1] := r1.set 1 _
        refine bodyPost_ret (results_cell_tmp_row rfl _ _ n1 41 #[.int .i64 y0, .int .i64 y1] (0, 0) _ rfl r2 Try.underlying41 rfl Try.size41) rfl ?_
        have hn := HN.out
        rw [HR0.out]
        exact ⟨rfl, by rw [← hn.1]; exact (HB5.out.setCell (p := ⟨n1, 0, none⟩) (by show n0 ≤ n1; omega) _).setCell (p := ⟨n1, 1, none⟩) (by show n0 ≤ n1; omega) _⟩
  · have HE2 : Hid (r = (aroundL L (s, k)).head?) := by show _ = _; rw [HE.out]; unfold nextEs; rw [if_neg hp]
    clear HE
    generalize pointAtL L (s, k) = pp at *
    generalize aroundL L (s, k) = ys at *
    have o0 := HO2.out.cell 0; have o1 := HO2.out.cell 1; have q0 := HO2.out.frozen 0; have q1 := HO2.out.frozen 1
    simp only [List.getElem?_toArray, List.getElem?_cons_zero, List.getElem?_cons_succ] at o0 o1
    rcases Nat.eq_zero_or_pos ys.length with h0 | h0
    · have h0i : (ys.length : Int) = 0 := by omega
      have HR0 : Hid (r = none) := by show _ = _; rw [HE2.out, List.length_eq_zero_iff.1 h0]; rfl
      clear h0
      go_wp2_with fail
      have r1 : Row (w2.setCell ⟨n1, 0, none⟩ (.int .i64 0)) n1 41 #[.int .i64 0, .int .i64 0] := HO2.out.set 0 _
      have r2 : Row ((w2.setCell ⟨n1, 0, none⟩ (.int .i64 0)).setCell ⟨n1, 1, none⟩ (.int .i64 0)) n1 41 #[.int .i64 0, .int .i64 0] := r1.set 1 _
      refine bodyPost_ret (results_cell_tmp_row rfl _ _ n1 41 #[.int .i64 0, .int .i64 0] (0, 0) _ rfl r2 Try.underlying41 rfl Try.size41) rfl ?_
      have hn := HN.out
      rw [HR0.out]
      exact ⟨rfl, by rw [← hn.1]; exact (HB2.out.setCell (p := ⟨n1, 0, none⟩) (by show n0 ≤ n1; omega) _).setCell (p := ⟨n1, 1, none⟩) (by show n0 ≤ n1; omega) _⟩
    · have h0i : ¬ (ys.length : Int) = 0 := by omega
      have h0j : (0 : Int) < (ys.length : Int) := by omega
      obtain ⟨b9, o9, hA, -, c0, c1⟩ := HP2.out.at 0 h0
      subst hA
      simp only [Nat.zero_mul, Nat.add_zero] at c0 c1
      have HR0 : Hid (r = some ys[0]) := by show _ = _; rw [HE2.out, List.head?_eq_getElem?, List.getElem?_eq_getElem h0]
      generalize ys[0] = z9 at *
      obtain ⟨y0, y1⟩ := z9
      simp only at c0 c1
      go_wp2_with fail
      have r1 : Row (w2.setCell ⟨n1, 0, none⟩ (.int .i64 y0)) n1 41 #[.int .i64 y0, .int .i64 0] := HO2.out.set 0 _
      have r2 : Row ((w2.setCell ⟨n1, 0, none⟩ (.int .i64 y0)).setCell ⟨n1, 1, none⟩ (.int .i64 y1)) n1 41 #[.int .i64 y0, .int .i64 y1] := r1.set 1 _
      refine bodyPost_ret (results_cell_tmp_row rfl _ _ n1 41 #[.int .i64 y0, .int .i64 y1] (0, 0) _ rfl r2 Try.underlying41 rfl Try.size41) rfl ?_
      have hn := HN.out
      rw [HR0.out]
      exact ⟨rfl, by rw [← hn.1]; exact (HB2.out.setCell (p := ⟨n1, 0, none⟩) (by show n0 ≤ n1; omega) _).setCell (p := ⟨n1, 1, none⟩) (by show n0 ≤ n1; omega) _⟩

end Go.Proofs.Ytpipkbdkkbcooaa
