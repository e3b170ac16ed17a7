/- Contracts: Next, of the program and of the document. -/
import Derived.Test.YtbomkifnhkmkoaaNA
import Derived.Test.YtbomkifnhkmkoaaRMath
import Derived.Test.YtbomkifnhkmkoaaLHead
import Derived.Laws.ResultCell
import Derived.Laws.Rows
namespace Go.Proofs.Ytbomkifnhkmkoaa
open Go.RowKit Fl
set_option maxRecDepth 100000

theorem results_cell_tmp_row {P : Program} {fn : Func} {p u : Tmp} {ty : TypeId} (h : fn.results = #[.cell p ty, .tmp u]) (tmps : Array Value) (w : World) (g : Nat) (t : TypeId) (cs : Array Value) (fr : Nat × Nat) (d : TypeDesc)
    (hp : tmps.getD p undef = .pointer (some ⟨g, 0, none⟩)) (hg : w.heap[g]? = some (.cells cs t fr))
    (hu : P.underlying ty = some d) (hd : (match d with | .struct _ | .array _ _ => true | _ => false) = true) (hi : (P.info? ty).map (·.size) = some cs.size) :
    (results fn tmps).run P w = .ok (.tuple #[.agg cs, tmps.getD u undef]) w := by
  rw [results_cell_tmp h, hp]
  simp [asAddr, run_loadVar_row w g t ty cs fr d hg hu hd hi, Result.andThen]
theorem results_tmp_cell {fn : Func} {p u : Tmp} {ty : TypeId} (h : fn.results = #[.tmp u, .cell p ty]) (tmps : Array Value) (P : Program) (w : World) :
    (results fn tmps).run P w =
      ((asAddr (tmps.getD p undef)).run P w).andThen fun a w₁ => ((loadVar ty a).run P w₁).andThen fun v w₂ => .ok (.tuple #[tmps.getD u undef, v]) w₂ := by
  simp only [results, h]
  simp [Sem.run_bind, Result.andThen]
theorem results_tmp_cell_row {P : Program} {fn : Func} {p u : Tmp} {ty : TypeId} (h : fn.results = #[.tmp u, .cell p ty]) (tmps : Array Value) (w : World) (g : Nat) (t : TypeId) (cs : Array Value) (fr : Nat × Nat) (d : TypeDesc)
    (hp : tmps.getD p undef = .pointer (some ⟨g, 0, none⟩)) (hg : w.heap[g]? = some (.cells cs t fr))
    (hu : P.underlying ty = some d) (hd : (match d with | .struct _ | .array _ _ => true | _ => false) = true) (hi : (P.info? ty).map (·.size) = some cs.size) :
    (results fn tmps).run P w = .ok (.tuple #[tmps.getD u undef, .agg cs]) w := by
  rw [results_tmp_cell h, hp]
  simp [asAddr, run_loadVar_row w g t ty cs fr d hg hu hd hi, Result.andThen]
theorem Try.size47 : (Try.prog.info? 47).map (·.size) = some 2 := by kernel_rfl

theorem around_node {L : Lay} {e : Int × Int} (h : 0 < (aroundL L e).length) : ∃ n, nodeL L.secs e = some n := by
  cases hn : nodeL L.secs e with
  | some n => exact ⟨n, rfl⟩
  | none => unfold aroundL at h; rw [hn] at h; simp at h
theorem LayV.point_at {W : World} {D n0 n1 n2 n3 n4 c0 c1 c2 c3 c4 : Nat} {A0 A1 A2 A3 A4 : Option Addr} {t0 t1 t2 t3 t4 : Int} {L : Lay}
    (h : LayV W D (.agg #[.slice A0 n0 c0, .slice A1 n1 c1, .slice A2 n2 c2, .slice A3 n3 c3, .slice A4 n4 c4, .int .i64 t0, .int .i64 t1, .int .i64 t2, .int .i64 t3, .int .i64 t4]) L) (i : Nat) (hi : i < L.points.length) :
    ∃ b o, A3 = some ⟨b, o, none⟩ ∧ W.cell? ⟨b, o + i * 4, none⟩ = some (.int .i64 L.points[i].1) ∧ W.cell? ⟨b, o + i * 4 + 1, none⟩ = some (.int .i64 L.points[i].2.1) ∧ W.cell? ⟨b, o + i * 4 + 2, none⟩ = some (.int .i64 L.points[i].2.2.1) ∧ W.cell? ⟨b, o + i * 4 + 3, none⟩ = some (.int .i64 L.points[i].2.2.2) := by
  obtain ⟨vN, vS, vP, vQ, vR, ps, hv, hd⟩ := h
  injection hv with hv
  have e : vQ = .slice A3 n3 c3 := by
    have := congrArg (fun x : Array Value => x[3]?) hv
    simpa using this.symm
  subst e
  obtain ⟨b, o, h1, _, h2⟩ := hd.q.at i hi
  exact ⟨b, o, h1, h2⟩

set_option maxHeartbeats 8000000 in
theorem next_any (w : World) (D : Nat) (v : Value) (L : Lay) (s k : Int) (A : Option Addr) (c : Nat) (right : List Bool) (h : IsGr w D v L) (hD : D ≤ w.heap.size) (hL : Fits L) (hr : Rd w w.heap.size (.slice A right.length c) (cvals right)) :
    Calls Try.prog 39 #[v, .agg #[.int .i64 s, .int .i64 k], .slice A right.length c] w (RetNext (nextL L (s, k) right) w) := by
  have hb0 := (Below.refl w.heap.size w).alloc (Nat.le_refl _) (.cells #[.int .i64 s, .int .i64 k] 47)
  have hb1 := hb0.alloc (by simp) (.cells #[.int .i64 0, .int .i64 0] 47)
  have HI := Lib.hid (h.keep hb1 hD)
  have HB0 := Lib.hid hb1
  have HRR := Lib.hid (hr.up hb1)
  have HRW := Lib.hid ((Row.new w 47 #[.int .i64 s, .int .i64 k]).alloc (.cells #[.int .i64 0, .int .i64 0] 47))
  have hro := Row.new (w.alloc (.cells #[.int .i64 s, .int .i64 k] 47)) 47 #[.int .i64 0, .int .i64 0]
  rw [World.size_alloc] at hro
  have HRO := Lib.hid hro
  obtain ⟨g, vS, vQ, vP, rfl, -⟩ := h
  have HL := Lib.hid hL
  have hD1 : D ≤ ((w.alloc (.cells #[.int .i64 s, .int .i64 k] 47)).alloc (.cells #[.int .i64 0, .int .i64 0] 47)).heap.size := by simp; omega
  clear hb0 hb1 hro hr hL
  obtain ⟨r, hr⟩ : ∃ r, nextL L (s, k) right = r := ⟨_, rfl⟩
  rw [hr]
  have HE : Hid (r = (nextEs L (s, k) right).head?) := hr.symm
  clear hr
  go_enter Try.func39, Try.ntmps39
  go_upto_region 1 with (fail)
  obtain ⟨n0, hn0⟩ : ∃ n, n = w.heap.size := ⟨_, rfl⟩
  obtain ⟨n1, hn1⟩ : ∃ n, n = n0 + 1 := ⟨_, rfl⟩
  rw [← hn0] at HRW HB0 HRO ⊢
  rw [← hn1] at HRO ⊢
  have HN : Hid (n0 = w.heap.size ∧ n1 = n0 + 1) := ⟨hn0, hn1⟩
  clear hn0 hn1 hD
  generalize (w.alloc (.cells #[.int .i64 s, .int .i64 k] 47)).alloc (.cells #[.int .i64 0, .int .i64 0] 47) = W0 at *
  have e0 := HRW.out.cell 0; have e1 := HRW.out.cell 1
  simp only [List.getElem?_toArray, List.getElem?_cons_zero, List.getElem?_cons_succ] at e0 e1
  go_wp2_with fail
  refine (around_any W0 D _ L s k HI.out hD1 HL.out).mono ?_; rintro e w1 ⟨v1, rfl, hp1, hb1⟩
  have HB1 : Hid (Below n0 w w1) := HB0.out.trans (hb1.mono (by have := HRW.out.lt; omega))
  have HR1 := Lib.hid (Below.row hb1 HRW.out HRW.out.lt)
  have HO1 := Lib.hid (Below.row hb1 HRO.out HRO.out.lt)
  have HI1 := Lib.hid (HI.out.keep hb1 hD1)
  have HRR1 := Lib.hid (HRR.out.up hb1)
  have hD2 : D ≤ w1.heap.size := by have := hb1.size; omega
  have HP1 := Lib.hid hp1
  obtain ⟨A5, c5, hv5, -⟩ := id hp1
  subst hv5
  clear hb1 hp1 e0 e1 HI HRW HB0 HRO HRR hD1
  have e0 := HR1.out.cell 0; have e1 := HR1.out.cell 1
  simp only [List.getElem?_toArray, List.getElem?_cons_zero, List.getElem?_cons_succ] at e0 e1
  go_wp2_with fail
  refine (pointAt_any w1 D _ L s k HI1.out hD2 HL.out).mono ?_; rintro e w2 ⟨rfl, hb2⟩
  have HB2 : Hid (Below n0 w w2) := HB1.out.trans (hb2.mono (by have := HR1.out.lt; omega))
  have HR2 := Lib.hid (Below.row hb2 HR1.out HR1.out.lt)
  have HO2 := Lib.hid (Below.row hb2 HO1.out HO1.out.lt)
  have HI2 := Lib.hid (HI1.out.keep hb2 hD2)
  have HRR2 := Lib.hid (HRR1.out.up hb2)
  have HP2 := Lib.hid (HP1.out.up hb2)
  have hD3 : D ≤ w2.heap.size := by have := hb2.size; omega
  clear hb2 HI1 HR1 HO1 HB1 HRR1 HP1 hD2 e0 e1
  by_cases hp : 0 ≤ pointAtL L (s, k)
  · obtain ⟨i, hi, hlt⟩ := pointAtL_lt hp
    have h2 : L.points.getD i (0, 0, 0, 0) = L.points[i] := by simp [List.getD, hlt]
    have HE2 : Hid (r = (throughL L.secs L.points[i] s [openL L.points[i] (right.getD i false)]).head?) := by
      show _ = _
      have h1 := HE.out
      unfold nextEs at h1
      rw [if_pos hp, hi] at h1
      simp only [Int.toNat_natCast, h2] at h1
      exact h1
    rw [hi]
    clear HE hi hp h2 HP2
    obtain ⟨g', vS', vQ', vP', e1, hg⟩ := HI2.out
    injection e1 with e1
    injection e1 with e1
    injection e1 with e1
    subst e1
    obtain ⟨A, c, hA⟩ := hg.points
    subst hA
    have f1 := hg.row.cell 1
    simp only [List.getElem?_toArray, List.getElem?_cons_zero, List.getElem?_cons_succ] at f1
    obtain ⟨b, o, rfl, -, c0, c1, c2, c3⟩ := hg.q.at i hlt
    have hq := HL.out.q
    clear hg
    generalize L.points[i] = z at *
    generalize hm : L.points.length = m at *
    obtain ⟨z0, z1, z2, z3⟩ := z
    simp only at c0 c1 c2 c3 HE2
    have HM := Lib.hid hm
    clear hm
    have hb3 := (Below.refl w2.heap.size w2).alloc (Nat.le_refl _) (.cells #[.int .i64 z0, .int .i64 z1, .int .i64 z2, .int .i64 z3] 61)
    have HB3 : Hid (Below n0 w (w2.alloc (.cells #[.int .i64 z0, .int .i64 z1, .int .i64 z2, .int .i64 z3] 61))) := HB2.out.trans (hb3.mono (by have := HR2.out.lt; omega))
    have HR3 := Lib.hid (HR2.out.alloc (.cells #[.int .i64 z0, .int .i64 z1, .int .i64 z2, .int .i64 z3] 61))
    have HO3 := Lib.hid (HO2.out.alloc (.cells #[.int .i64 z0, .int .i64 z1, .int .i64 z2, .int .i64 z3] 61))
    have HI3 := Lib.hid (HI2.out.keep hb3 hD3)
    have HRR3 := Lib.hid (HRR2.out.up hb3)
    have HS3 := Lib.hid (Row.new w2 61 #[.int .i64 z0, .int .i64 z1, .int .i64 z2, .int .i64 z3])
    have hD4 : D ≤ (w2.alloc (.cells #[.int .i64 z0, .int .i64 z1, .int .i64 z2, .int .i64 z3] 61)).heap.size := by simp; omega
    clear hb3 HI2 HR2 HO2 HB2 HRR2
    go_upto_region 5 with (fail)
    obtain ⟨a3, ha3⟩ : ∃ n, n = w2.heap.size := ⟨_, rfl⟩
    rw [← ha3] at HS3 ⊢
    clear ha3 c0 c1 c2 c3 f1 hD3
    generalize w2.alloc (.cells #[.int .i64 z0, .int .i64 z1, .int .i64 z2, .int .i64 z3] 61) = w3 at *
    have p0 := HS3.out.cell 0; have p1 := HS3.out.cell 1; have p2 := HS3.out.cell 2; have p3 := HS3.out.cell 3
    simp only [List.getElem?_toArray, List.getElem?_cons_zero, List.getElem?_cons_succ] at p0 p1 p2 p3
    have hil : right.getD i false = false ∨ ∃ h : i < right.length, right[i] = true := by
      by_cases h : i < right.length
      · rw [List.getD, List.getElem?_eq_getElem h]
        cases hh : right[i] with
        | true => exact Or.inr ⟨h, hh⟩
        | false => exact Or.inl rfl
      · left; rw [List.getD, List.getElem?_eq_none (by omega)]; rfl
    rcases hil with hf | ⟨hri, hrt⟩
    · rw [hf] at HE2
      change Hid (r = (throughL L.secs (z0, z1, z2, z3) s [z2]).head?) at HE2
      by_cases hri : i < right.length
      · obtain ⟨br, or, hAr, -, cr⟩ := HRR3.out.at (i := i) (u := .bool false) (by rw [cvals_get right i hri]; rw [List.getD, List.getElem?_eq_getElem hri] at hf; simpa using hf)
        subst hAr
        clear hf
        generalize right.length = rl at *
        go_upto_region 8 with (fail)
        clear p0 p1 p2 p3
        have e0 := HR3.out.cell 0; have e1 := HR3.out.cell 1
        have p0 := HS3.out.cell 0; have p1 := HS3.out.cell 1; have p2 := HS3.out.cell 2; have p3 := HS3.out.cell 3
        simp only [List.getElem?_toArray, List.getElem?_cons_zero, List.getElem?_cons_succ] at e0 e1 p0 p1 p2 p3
        have hb4 := (Below.refl w3.heap.size w3).alloc (Nat.le_refl _) (.cells #[.int .i64 z2] 3)
        have HB4 : Hid (Below n0 w (w3.alloc (.cells #[.int .i64 z2] 3))) := HB3.out.trans (hb4.mono (by have := HR3.out.lt; omega))
        have HI4 := Lib.hid (HI3.out.keep hb4 hD4)
        have HO4 := Lib.hid (HO3.out.alloc (.cells #[.int .i64 z2] 3))
        have HRD := Lib.hid (Rd.lone w3 z2)
        clear hb4
        go_wp2_with fail
        refine (through_any (w3.alloc (.cells #[.int .i64 z2] 3)) D _ _ L z0 z1 z2 z3 s [z2] HI4.out (by simp; omega) HL.out HRD.out (by simp) (by simp)).mono ?_; rintro e w5 ⟨v5, rfl, hp5, hb5⟩
        have HB5 : Hid (Below n0 w w5) := HB4.out.trans (hb5.mono (by have := HR3.out.lt; simp; omega))
        have HO5 := Lib.hid (Below.row hb5 HO4.out HO4.out.lt)
        obtain ⟨A7, c7, hv7, -⟩ := id hp5
        subst hv7
        have HP5 := Lib.hid hp5
        clear hp5 hb5 e0 e1 p0 p1 p2 p3 HB4 HI4 HO4 HRD
        generalize throughL L.secs (z0, z1, z2, z3) s [z2] = ys at *
        have o0 := HO5.out.cell 0; have o1 := HO5.out.cell 1; have q0 := HO5.out.frozen 0; have q1 := HO5.out.frozen 1
        simp only [List.getElem?_toArray, List.getElem?_cons_zero, List.getElem?_cons_succ] at o0 o1
        rcases Nat.eq_zero_or_pos ys.length with h0 | h0
        · have h0i : (ys.length : Int) = 0 := by omega
          have HR0 : Hid (r = none) := by show _ = _; rw [HE2.out, List.length_eq_zero_iff.1 h0]; rfl
          clear h0
          go_wp2_with fail
          have r1 : Row (w5.setCell ⟨n1, 0, none⟩ (.int .i64 0)) n1 47 #[.int .i64 0, .int .i64 0] := HO5.out.set 0 _
          have r2 : Row ((w5.setCell ⟨n1, 0, none⟩ (.int .i64 0)).setCell ⟨n1, 1, none⟩ (.int .i64 0)) n1 47 #[.int .i64 0, .int .i64 0] := r1.set 1 _
          refine bodyPost_ret (results_cell_tmp_row rfl _ _ n1 47 #[.int .i64 0, .int .i64 0] (0, 0) _ rfl r2 Try.underlying47 rfl Try.size47) rfl ?_
          have hn := HN.out
          rw [HR0.out]
          exact ⟨rfl, by rw [← hn.1]; exact (HB5.out.setCell (p := ⟨n1, 0, none⟩) (by show n0 ≤ n1; omega) _).setCell (p := ⟨n1, 1, none⟩) (by show n0 ≤ n1; omega) _⟩
        · have h0i : ¬ (ys.length : Int) = 0 := by omega
          have h0j : (0 : Int) < (ys.length : Int) := by omega
          obtain ⟨b9, o9, hA, -, c0, c1⟩ := HP5.out.at 0 h0
          subst hA
          simp only [Nat.zero_mul, Nat.add_zero] at c0 c1
          have HR0 : Hid (r = some ys[0]) := by show _ = _; rw [HE2.out, List.head?_eq_getElem?, List.getElem?_eq_getElem h0]
          generalize ys[0] = z9 at *
          obtain ⟨y0, y1⟩ := z9
          simp only at c0 c1
          go_wp2_with fail
          have r1 : Row (w5.setCell ⟨n1, 0, none⟩ (.int .i64 y0)) n1 47 #[.int .i64 y0, .int .i64 0] := HO5.out.set 0 _
          have r2 : Row ((w5.setCell ⟨n1, 0, none⟩ (.int .i64 y0)).setCell ⟨n1, 1, none⟩ (.int .i64 y1)) n1 47 #[.int .i64 y0, .int .i64 y1] := r1.set 1 _
          refine bodyPost_ret (results_cell_tmp_row rfl _ _ n1 47 #[.int .i64 y0, .int .i64 y1] (0, 0) _ rfl r2 Try.underlying47 rfl Try.size47) rfl ?_
          have hn := HN.out
          rw [HR0.out]
          exact ⟨rfl, by rw [← hn.1]; exact (HB5.out.setCell (p := ⟨n1, 0, none⟩) (by show n0 ≤ n1; omega) _).setCell (p := ⟨n1, 1, none⟩) (by show n0 ≤ n1; omega) _⟩
      · have hri2 : ¬ (i : Int) < (right.length : Int) := by omega
        clear hf
        generalize right.length = rl at *
        go_upto_region 8 with (fail)
        clear p0 p1 p2 p3
        have e0 := HR3.out.cell 0; have e1 := HR3.out.cell 1
        have p0 := HS3.out.cell 0; have p1 := HS3.out.cell 1; have p2 := HS3.out.cell 2; have p3 := HS3.out.cell 3
        simp only [List.getElem?_toArray, List.getElem?_cons_zero, List.getElem?_cons_succ] at e0 e1 p0 p1 p2 p3
        have hb4 := (Below.refl w3.heap.size w3).alloc (Nat.le_refl _) (.cells #[.int .i64 z2] 3)
        have HB4 : Hid (Below n0 w (w3.alloc (.cells #[.int .i64 z2] 3))) := HB3.out.trans (hb4.mono (by have := HR3.out.lt; omega))
        have HI4 := Lib.hid (HI3.out.keep hb4 hD4)
        have HO4 := Lib.hid (HO3.out.alloc (.cells #[.int .i64 z2] 3))
        have HRD := Lib.hid (Rd.lone w3 z2)
        clear hb4
        go_wp2_with fail
        refine (through_any (w3.alloc (.cells #[.int .i64 z2] 3)) D _ _ L z0 z1 z2 z3 s [z2] HI4.out (by simp; omega) HL.out HRD.out (by simp) (by simp)).mono ?_; rintro e w5 ⟨v5, rfl, hp5, hb5⟩
        have HB5 : Hid (Below n0 w w5) := HB4.out.trans (hb5.mono (by have := HR3.out.lt; simp; omega))
        have HO5 := Lib.hid (Below.row hb5 HO4.out HO4.out.lt)
        obtain ⟨A7, c7, hv7, -⟩ := id hp5
        subst hv7
        have HP5 := Lib.hid hp5
        clear hp5 hb5 e0 e1 p0 p1 p2 p3 HB4 HI4 HO4 HRD
        generalize throughL L.secs (z0, z1, z2, z3) s [z2] = ys at *
        have o0 := HO5.out.cell 0; have o1 := HO5.out.cell 1; have q0 := HO5.out.frozen 0; have q1 := HO5.out.frozen 1
        simp only [List.getElem?_toArray, List.getElem?_cons_zero, List.getElem?_cons_succ] at o0 o1
        rcases Nat.eq_zero_or_pos ys.length with h0 | h0
        · have h0i : (ys.length : Int) = 0 := by omega
          have HR0 : Hid (r = none) := by show _ = _; rw [HE2.out, List.length_eq_zero_iff.1 h0]; rfl
          clear h0
          go_wp2_with fail
          have r1 : Row (w5.setCell ⟨n1, 0, none⟩ (.int .i64 0)) n1 47 #[.int .i64 0, .int .i64 0] := HO5.out.set 0 _
          have r2 : Row ((w5.setCell ⟨n1, 0, none⟩ (.int .i64 0)).setCell ⟨n1, 1, none⟩ (.int .i64 0)) n1 47 #[.int .i64 0, .int .i64 0] := r1.set 1 _
          refine bodyPost_ret (results_cell_tmp_row rfl _ _ n1 47 #[.int .i64 0, .int .i64 0] (0, 0) _ rfl r2 Try.underlying47 rfl Try.size47) rfl ?_
          have hn := HN.out
          rw [HR0.out]
          exact ⟨rfl, by rw [← hn.1]; exact (HB5.out.setCell (p := ⟨n1, 0, none⟩) (by show n0 ≤ n1; omega) _).setCell (p := ⟨n1, 1, none⟩) (by show n0 ≤ n1; omega) _⟩
        · have h0i : ¬ (ys.length : Int) = 0 := by omega
          have h0j : (0 : Int) < (ys.length : Int) := by omega
          obtain ⟨b9, o9, hA, -, c0, c1⟩ := HP5.out.at 0 h0
          subst hA
          simp only [Nat.zero_mul, Nat.add_zero] at c0 c1
          have HR0 : Hid (r = some ys[0]) := by show _ = _; rw [HE2.out, List.head?_eq_getElem?, List.getElem?_eq_getElem h0]
          generalize ys[0] = z9 at *
          obtain ⟨y0, y1⟩ := z9
          simp only at c0 c1
          go_wp2_with fail
          have r1 : Row (w5.setCell ⟨n1, 0, none⟩ (.int .i64 y0)) n1 47 #[.int .i64 y0, .int .i64 0] := HO5.out.set 0 _
          have r2 : Row ((w5.setCell ⟨n1, 0, none⟩ (.int .i64 y0)).setCell ⟨n1, 1, none⟩ (.int .i64 y1)) n1 47 #[.int .i64 y0, .int .i64 y1] := r1.set 1 _
          refine bodyPost_ret (results_cell_tmp_row rfl _ _ n1 47 #[.int .i64 y0, .int .i64 y1] (0, 0) _ rfl r2 Try.underlying47 rfl Try.size47) rfl ?_
          have hn := HN.out
          rw [HR0.out]
          exact ⟨rfl, by rw [← hn.1]; exact (HB5.out.setCell (p := ⟨n1, 0, none⟩) (by show n0 ≤ n1; omega) _).setCell (p := ⟨n1, 1, none⟩) (by show n0 ≤ n1; omega) _⟩
    · have hf : right.getD i false = true := by rw [List.getD, List.getElem?_eq_getElem hri]; simpa using hrt
      rw [hf] at HE2
      change Hid (r = (throughL L.secs (z0, z1, z2, z3) s [z3]).head?) at HE2
      obtain ⟨br, or, hAr, -, cr⟩ := HRR3.out.at (i := i) (u := .bool true) (by rw [cvals_get right i hri, hrt])
      subst hAr
      clear hf hrt
      generalize right.length = rl at *
      go_upto_region 8 with (fail)
      clear p0 p1 p2 p3
      have e0 := HR3.out.cell 0; have e1 := HR3.out.cell 1
      have p0 := HS3.out.cell 0; have p1 := HS3.out.cell 1; have p2 := HS3.out.cell 2; have p3 := HS3.out.cell 3
      simp only [List.getElem?_toArray, List.getElem?_cons_zero, List.getElem?_cons_succ] at e0 e1 p0 p1 p2 p3
      have hb4 := (Below.refl w3.heap.size w3).alloc (Nat.le_refl _) (.cells #[.int .i64 z3] 3)
      have HB4 : Hid (Below n0 w (w3.alloc (.cells #[.int .i64 z3] 3))) := HB3.out.trans (hb4.mono (by have := HR3.out.lt; omega))
      have HI4 := Lib.hid (HI3.out.keep hb4 hD4)
      have HO4 := Lib.hid (HO3.out.alloc (.cells #[.int .i64 z3] 3))
      have HRD := Lib.hid (Rd.lone w3 z3)
      clear hb4
      go_wp2_with fail
      refine (through_any (w3.alloc (.cells #[.int .i64 z3] 3)) D _ _ L z0 z1 z2 z3 s [z3] HI4.out (by simp; omega) HL.out HRD.out (by simp) (by simp)).mono ?_; rintro e w5 ⟨v5, rfl, hp5, hb5⟩
      have HB5 : Hid (Below n0 w w5) := HB4.out.trans (hb5.mono (by have := HR3.out.lt; simp; omega))
      have HO5 := Lib.hid (Below.row hb5 HO4.out HO4.out.lt)
      obtain ⟨A7, c7, hv7, -⟩ := id hp5
      subst hv7
      have HP5 := Lib.hid hp5
      clear hp5 hb5 e0 e1 p0 p1 p2 p3 HB4 HI4 HO4 HRD
      generalize throughL L.secs (z0, z1, z2, z3) s [z3] = ys at *
      have o0 := HO5.out.cell 0; have o1 := HO5.out.cell 1; have q0 := HO5.out.frozen 0; have q1 := HO5.out.frozen 1
      simp only [List.getElem?_toArray, List.getElem?_cons_zero, List.getElem?_cons_succ] at o0 o1
      rcases Nat.eq_zero_or_pos ys.length with h0 | h0
      · have h0i : (ys.length : Int) = 0 := by omega
        have HR0 : Hid (r = none) := by show _ = _; rw [HE2.out, List.length_eq_zero_iff.1 h0]; rfl
        clear h0
        go_wp2_with fail
        have r1 : Row (w5.setCell ⟨n1, 0, none⟩ (.int .i64 0)) n1 47 #[.int .i64 0, .int .i64 0] := HO5.out.set 0 _
        have r2 : Row ((w5.setCell ⟨n1, 0, none⟩ (.int .i64 0)).setCell ⟨n1, 1, none⟩ (.int .i64 0)) n1 47 #[.int .i64 0, .int .i64 0] := r1.set 1 _
        refine bodyPost_ret (results_cell_tmp_row rfl _ _ n1 47 #[.int .i64 0, .int .i64 0] (0, 0) _ rfl r2 Try.underlying47 rfl Try.size47) rfl ?_
        have hn := HN.out
        rw [HR0.out]
        exact ⟨rfl, by rw [← hn.1]; exact (HB5.out.setCell (p := ⟨n1, 0, none⟩) (by show n0 ≤ n1; omega) _).setCell (p := ⟨n1, 1, none⟩) (by show n0 ≤ n1; omega) _⟩
      · have h0i : ¬ (ys.length : Int) = 0 := by omega
        have h0j : (0 : Int) < (ys.length : Int) := by omega
        obtain ⟨b9, o9, hA, -, c0, c1⟩ := HP5.out.at 0 h0
        subst hA
        simp only [Nat.zero_mul, Nat.add_zero] at c0 c1
        have HR0 : Hid (r = some ys[0]) := by show _ = _; rw [HE2.out, List.head?_eq_getElem?, List.getElem?_eq_getElem h0]
        generalize ys[0] = z9 at *
        obtain ⟨y0, y1⟩ := z9
        simp only at c0 c1
        go_wp2_with fail
        have r1 : Row (w5.setCell ⟨n1, 0, none⟩ (.int .i64 y0)) n1 47 #[.int .i64 y0, .int .i64 0] := HO5.out.set 0 _
        have r2 : Row ((w5.setCell ⟨n1, 0, none⟩ (.int .i64 y0)).setCell ⟨n1, 1, none⟩ (.int .i64 y1)) n1 47 #[.int .i64 y0, .int .i64 y1] := r1.set 1 _
        refine bodyPost_ret (results_cell_tmp_row rfl _ _ n1 47 #[.int .i64 y0, .int .i64 y1] (0, 0) _ rfl r2 Try.underlying47 rfl Try.size47) rfl ?_
        have hn := HN.out
        rw [HR0.out]
        exact ⟨rfl, by rw [← hn.1]; exact (HB5.out.setCell (p := ⟨n1, 0, none⟩) (by show n0 ≤ n1; omega) _).setCell (p := ⟨n1, 1, none⟩) (by show n0 ≤ n1; omega) _⟩
  · have HE2 : Hid (r = (aroundL L (s, k)).head?) := by show _ = _; rw [HE.out]; unfold nextEs; rw [if_neg hp]
    clear HE
    generalize pointAtL L (s, k) = pp at *
    generalize aroundL L (s, k) = ys at *
    have o0 := HO2.out.cell 0; have o1 := HO2.out.cell 1; have q0 := HO2.out.frozen 0; have q1 := HO2.out.frozen 1
    simp only [List.getElem?_toArray, List.getElem?_cons_zero, List.getElem?_cons_succ] at o0 o1
    rcases Nat.eq_zero_or_pos ys.length with h0 | h0
    · have h0i : (ys.length : Int) = 0 := by omega
      have HR0 : Hid (r = none) := by show _ = _; rw [HE2.out, List.length_eq_zero_iff.1 h0]; rfl
      clear h0
      go_wp2_with fail
      have r1 : Row (w2.setCell ⟨n1, 0, none⟩ (.int .i64 0)) n1 47 #[.int .i64 0, .int .i64 0] := HO2.out.set 0 _
      have r2 : Row ((w2.setCell ⟨n1, 0, none⟩ (.int .i64 0)).setCell ⟨n1, 1, none⟩ (.int .i64 0)) n1 47 #[.int .i64 0, .int .i64 0] := r1.set 1 _
      refine bodyPost_ret (results_cell_tmp_row rfl _ _ n1 47 #[.int .i64 0, .int .i64 0] (0, 0) _ rfl r2 Try.underlying47 rfl Try.size47) rfl ?_
      have hn := HN.out
      rw [HR0.out]
      exact ⟨rfl, by rw [← hn.1]; exact (HB2.out.setCell (p := ⟨n1, 0, none⟩) (by show n0 ≤ n1; omega) _).setCell (p := ⟨n1, 1, none⟩) (by show n0 ≤ n1; omega) _⟩
    · have h0i : ¬ (ys.length : Int) = 0 := by omega
      have h0j : (0 : Int) < (ys.length : Int) := by omega
      obtain ⟨b9, o9, hA, -, c0, c1⟩ := HP2.out.at 0 h0
      subst hA
      simp only [Nat.zero_mul, Nat.add_zero] at c0 c1
      have HR0 : Hid (r = some ys[0]) := by show _ = _; rw [HE2.out, List.head?_eq_getElem?, List.getElem?_eq_getElem h0]
      generalize ys[0] = z9 at *
      obtain ⟨y0, y1⟩ := z9
      simp only at c0 c1
      go_wp2_with fail
      have r1 : Row (w2.setCell ⟨n1, 0, none⟩ (.int .i64 y0)) n1 47 #[.int .i64 y0, .int .i64 0] := HO2.out.set 0 _
      have r2 : Row ((w2.setCell ⟨n1, 0, none⟩ (.int .i64 y0)).setCell ⟨n1, 1, none⟩ (.int .i64 y1)) n1 47 #[.int .i64 y0, .int .i64 y1] := r1.set 1 _
      refine bodyPost_ret (results_cell_tmp_row rfl _ _ n1 47 #[.int .i64 y0, .int .i64 y1] (0, 0) _ rfl r2 Try.underlying47 rfl Try.size47) rfl ?_
      have hn := HN.out
      rw [HR0.out]
      exact ⟨rfl, by rw [← hn.1]; exact (HB2.out.setCell (p := ⟨n1, 0, none⟩) (by show n0 ≤ n1; omega) _).setCell (p := ⟨n1, 1, none⟩) (by show n0 ≤ n1; omega) _⟩



theorem find_at {xs : List (Int × Int)} {f : Int × Int → Bool} {j : Nat} {z : Int × Int} (hj : j < xs.length) (h : f xs[j] = true) (hn : ∀ i (hi : i < xs.length), i < j → f xs[i] = false) (hz : xs[j] = z) : xs.find? f = some z := by
  rw [List.find?_eq_some_iff_getElem]
  exact ⟨by rw [← hz]; exact h, j, hj, hz, fun i hi => by rw [hn i (by omega) hi]; rfl⟩
def nextP (es : List (Int × Int)) (e : Int × Int) (p : Int × Int × Int × Int) (b : Bool) : Option (Int × Int) := if e.1 = p.2.1 then es.find? (fun x => x.1 == openL p b) else if e.1 = openL p b then es.head? else none
/-- As the document has it. -/
def nextR (L : Lay) (e : Int × Int) (right : List Bool) : Option (Int × Int) :=
  if (aroundL L e).length = 0 then none
  else if pointAtL L e < 0 then (aroundL L e).head?
  else nextP (aroundL L e) e (L.points.getD (pointAtL L e).toNat (0, 0, 0, 0)) (right.getD (pointAtL L e).toNat false)

theorem oneL_fst (ss : List (Int × Int × Int)) (s n : Int) : ∀ x ∈ oneL ss s n, x.1 = s := by
  intro x hx
  unfold oneL endsOfL at hx
  have hx2 := List.mem_of_mem_take hx
  split at hx2
  · rename_i hb
    unfold hasB at hb
    simp only [Bool.and_eq_true, decide_eq_true_eq] at hb
    unfold endsAt at hx2
    rcases List.mem_append.1 hx2 with h | h
    · split at h
      · rw [List.mem_singleton] at h; rw [h]; exact Int.toNat_of_nonneg hb.1
      · simp at h
    · split at h
      · rw [List.mem_singleton] at h; rw [h]; exact Int.toNat_of_nonneg hb.1
      · simp at h
  · simp at hx2
theorem oneL_cases (ss : List (Int × Int × Int)) (s n : Int) : oneL ss s n = [] ∨ ∃ y, oneL ss s n = [(s, y)] := by
  have h1 := oneL_le ss s n
  have h2 := oneL_fst ss s n
  cases hx : oneL ss s n with
  | nil => exact Or.inl rfl
  | cons a r =>
    right
    rw [hx] at h1 h2
    have hr : r = [] := by simpa using h1
    subst hr
    obtain ⟨a0, a1⟩ := a
    have := h2 (a0, a1) (by simp)
    simp only at this
    exact ⟨a1, by rw [this]⟩
theorem around_point {L : Lay} {e : Int × Int} (h : 0 ≤ pointAtL L e) : aroundL L e = throughL L.secs (L.points.getD (pointAtL L e).toNat (0, 0, 0, 0)) e.1 [(L.points.getD (pointAtL L e).toNat (0, 0, 0, 0)).2.2.1, (L.points.getD (pointAtL L e).toNat (0, 0, 0, 0)).2.2.2] := by
  unfold pointAtL at h ⊢
  unfold aroundL
  cases hn : nodeL L.secs e with
  | none => rw [hn] at h; simp at h
  | some n => rw [hn] at h; simp only; rw [if_pos h]
theorem next_through (ss : List (Int × Int × Int)) (p : Int × Int × Int × Int) (e : Int × Int) (b : Bool) : (throughL ss p e.1 [openL p b]).head? = if (throughL ss p e.1 [p.2.2.1, p.2.2.2]).length = 0 then none else nextP (throughL ss p e.1 [p.2.2.1, p.2.2.2]) e p b := by
  obtain ⟨nd, st, lf, rt⟩ := p
  obtain ⟨e0, e1⟩ := e
  unfold throughL nextP openL
  simp only
  by_cases hs : e0 = st
  · rw [if_pos hs, if_pos hs, if_pos hs]
    simp only [List.flatMap_cons, List.flatMap_nil, List.append_nil]
    rcases oneL_cases ss lf nd with h1 | ⟨y1, h1⟩ <;> rcases oneL_cases ss rt nd with h2 | ⟨y2, h2⟩ <;> rw [h1, h2] <;> cases b <;> simp [h1, h2]
    · intro h; subst h; rw [h1] at h2; simp at h2
    · intro h; subst h; rw [h2] at h1; simp at h1
    · by_cases h : lf = rt
      · subst h
        rw [h1] at h2
        simpa using h2.symm
      · simp [h]
  · rw [if_neg hs, if_neg hs, if_neg hs]
    rcases oneL_cases ss st nd with h1 | ⟨y1, h1⟩ <;> rw [h1] <;> cases b <;> simp only [List.contains_cons, List.contains_nil, Bool.or_false] <;> by_cases h2 : e0 = lf <;> by_cases h3 : e0 = rt <;> simp [h2, h3]
    all_goals (split <;> rfl)
theorem next_eq (L : Lay) (e : Int × Int) (right : List Bool) : nextL L e right = nextR L e right := by
  unfold nextL nextEs nextR
  by_cases h : 0 ≤ pointAtL L e
  · rw [if_pos h, next_through, ← around_point h]
    split
    · rfl
    · rw [if_neg (by omega)]
  · rw [if_neg h]
    split
    · rename_i h0
      rw [List.length_eq_zero_iff.1 h0]; rfl
    · rw [if_pos (by omega)]

set_option maxHeartbeats 16000000 in
theorem refNext_any (w : World) (D : Nat) (v : Value) (L : Lay) (s k : Int) (A : Option Addr) (c : Nat) (right : List Bool) (h : LayV w D v L) (hD : D ≤ w.heap.size) (hL : Fits L) (hr : Rd w w.heap.size (.slice A right.length c) (cvals right)) :
    Calls Try.prog 18 #[v, .agg #[.int .i64 s, .int .i64 k], .slice A right.length c] w (RetNext (nextR L (s, k) right) w) := by
  have HV := Lib.hid h
  obtain ⟨A0, k0, c0, A1, k1, c1, A2, k2, c2, A3, k3, c3, A4, k4, c4, t0, t1, t2, t3, t4, rfl, -, -, -, hk3⟩ := h.lens
  have HK3 := Lib.hid hk3
  have HB9 : Hid (Below w.heap.size w (((w.alloc (.cells #[.slice A0 k0 c0, .slice A1 k1 c1, .slice A2 k2 c2, .slice A3 k3 c3, .slice A4 k4 c4, .int .i64 t0, .int .i64 t1, .int .i64 t2, .int .i64 t3, .int .i64 t4] 37)).alloc (.cells #[.int .i64 s, .int .i64 k] 47)).alloc (.cells #[.int .i64 0, .int .i64 0] 47))) := (below2 w _ _).alloc (by simp; omega) _
  have HRL0 := Lib.hid (((Row.new w 37 #[.slice A0 k0 c0, .slice A1 k1 c1, .slice A2 k2 c2, .slice A3 k3 c3, .slice A4 k4 c4, .int .i64 t0, .int .i64 t1, .int .i64 t2, .int .i64 t3, .int .i64 t4]).alloc (.cells #[.int .i64 s, .int .i64 k] 47)).alloc (.cells #[.int .i64 0, .int .i64 0] 47))
  have hr1 := (Row.new (w.alloc (.cells #[.slice A0 k0 c0, .slice A1 k1 c1, .slice A2 k2 c2, .slice A3 k3 c3, .slice A4 k4 c4, .int .i64 t0, .int .i64 t1, .int .i64 t2, .int .i64 t3, .int .i64 t4] 37)) 47 #[.int .i64 s, .int .i64 k]).alloc (.cells #[.int .i64 0, .int .i64 0] 47)
  have hr2 := Row.new ((w.alloc (.cells #[.slice A0 k0 c0, .slice A1 k1 c1, .slice A2 k2 c2, .slice A3 k3 c3, .slice A4 k4 c4, .int .i64 t0, .int .i64 t1, .int .i64 t2, .int .i64 t3, .int .i64 t4] 37)).alloc (.cells #[.int .i64 s, .int .i64 k] 47)) 47 #[.int .i64 0, .int .i64 0]
  rw [World.size_alloc] at hr1
  rw [World.size_alloc, World.size_alloc] at hr2
  have HRE0 := Lib.hid hr1
  have HRO0 := Lib.hid hr2
  have HRR := Lib.hid hr
  have HL := Lib.hid hL
  clear hr1 hr2 hr hk3 hL
  obtain ⟨r, hr⟩ : ∃ r, nextR L (s, k) right = r := ⟨_, rfl⟩
  rw [hr]
  have HE : Hid (r = if (aroundL L (s, k)).length = 0 then none
    else if pointAtL L (s, k) < 0 then (aroundL L (s, k)).head?
    else nextP (aroundL L (s, k)) (s, k) (L.points.getD (pointAtL L (s, k)).toNat (0, 0, 0, 0)) (right.getD (pointAtL L (s, k)).toNat false)) := hr.symm
  clear hr
  go_enter Try.func18, Try.ntmps18
  go_upto_region 1 with (fail)
  obtain ⟨n0, hn0⟩ : ∃ n, n = w.heap.size := ⟨_, rfl⟩
  obtain ⟨n1, hn1⟩ : ∃ n, n = n0 + 1 := ⟨_, rfl⟩
  obtain ⟨n2, hn2⟩ : ∃ n, n = n1 + 1 := ⟨_, rfl⟩
  obtain ⟨B0, hB0⟩ : ∃ n, n = w.heap.size := ⟨_, rfl⟩
  rw [← hB0] at HB9 HRR
  rw [← hn0] at HRL0 HRE0 HRO0 ⊢
  rw [← hn1] at HRE0 HRO0 ⊢
  rw [← hn2] at HRO0 ⊢
  have HN : Hid (n0 = w.heap.size ∧ B0 = n0 ∧ D ≤ B0 ∧ n1 = n0 + 1 ∧ n2 = n1 + 1) := ⟨hn0, by omega, by omega, hn1, hn2⟩
  have hDB : D ≤ B0 := by omega
  have hB1 : B0 ≤ w.heap.size := by omega
  clear hn0 hB0 hn1 hn2 hD
  generalize ((w.alloc (.cells #[.slice A0 k0 c0, .slice A1 k1 c1, .slice A2 k2 c2, .slice A3 k3 c3, .slice A4 k4 c4, .int .i64 t0, .int .i64 t1, .int .i64 t2, .int .i64 t3, .int .i64 t4] 37)).alloc (.cells #[.int .i64 s, .int .i64 k] 47)).alloc (.cells #[.int .i64 0, .int .i64 0] 47) = W0 at *
  have HS0 : Hid (Below B0 w W0 ∧ Row W0 n0 37 #[.slice A0 k0 c0, .slice A1 k1 c1, .slice A2 k2 c2, .slice A3 k3 c3, .slice A4 k4 c4, .int .i64 t0, .int .i64 t1, .int .i64 t2, .int .i64 t3, .int .i64 t4] ∧ Row W0 n1 47 #[.int .i64 s, .int .i64 k] ∧ Row W0 n2 47 #[.int .i64 0, .int .i64 0]) := ⟨HB9.out, HRL0.out, HRE0.out, HRO0.out⟩
  clear HB9 HRL0 HRE0 HRO0
  have l0 := HS0.out.2.1.cell 0; have l1 := HS0.out.2.1.cell 1; have l2 := HS0.out.2.1.cell 2; have l3 := HS0.out.2.1.cell 3; have l4 := HS0.out.2.1.cell 4; have l5 := HS0.out.2.1.cell 5; have l6 := HS0.out.2.1.cell 6; have l7 := HS0.out.2.1.cell 7; have l8 := HS0.out.2.1.cell 8; have l9 := HS0.out.2.1.cell 9
  simp only [List.getElem?_toArray, List.getElem?_cons_zero, List.getElem?_cons_succ] at l0 l1 l2 l3 l4 l5 l6 l7 l8 l9
  have f0 := HS0.out.2.2.1.cell 0; have f1 := HS0.out.2.2.1.cell 1
  simp only [List.getElem?_toArray, List.getElem?_cons_zero, List.getElem?_cons_succ] at f0 f1
  go_wp2_with fail
  refine (refAround_any W0 D _ L s k (HV.out.keep HS0.out.1 hDB) (by have := HS0.out.1.size; omega) HL.out).mono ?_; rintro e w2 ⟨v2, rfl, hp2, hb2⟩
  obtain ⟨A9, c9, hv2, -⟩ := id hp2
  subst hv2
  have HU2 : Hid ((Below B0 w w2 ∧ Row w2 n0 37 #[.slice A0 k0 c0, .slice A1 k1 c1, .slice A2 k2 c2, .slice A3 k3 c3, .slice A4 k4 c4, .int .i64 t0, .int .i64 t1, .int .i64 t2, .int .i64 t3, .int .i64 t4] ∧ Row w2 n1 47 #[.int .i64 s, .int .i64 k] ∧ Row w2 n2 47 #[.int .i64 0, .int .i64 0]) ∧ Prs w2 w2.heap.size (.slice A9 (aroundL L (s, k)).length c9) (aroundL L (s, k))) := ⟨⟨HS0.out.1.trans (hb2.mono (by have := HS0.out.1.size; omega)), Below.row hb2 HS0.out.2.1 HS0.out.2.1.lt, Below.row hb2 HS0.out.2.2.1 HS0.out.2.2.1.lt, Below.row hb2 HS0.out.2.2.2 HS0.out.2.2.2.lt⟩, hp2⟩
  have hal := aroundL_le L (s, k)
  have HND : Hid (0 < (aroundL L (s, k)).length → ∃ n, nodeL L.secs (s, k) = some n) := fun h => around_node h
  clear hb2 hp2 HS0 f0 f1 l0 l1 l2 l3 l4 l5 l6 l7 l8 l9
  generalize aroundL L (s, k) = es at *
  rcases Nat.eq_zero_or_pos es.length with h0 | hpos
  · have HR9 : Hid (r = none) := by show _ = _; rw [HE.out, if_pos h0]
    have h0i : (es.length : Int) = 0 := by omega
    clear HE HND
    have o0 := HU2.out.1.2.2.2.cell 0; have o1 := HU2.out.1.2.2.2.cell 1; have z0 := HU2.out.1.2.2.2.frozen 0; have z1 := HU2.out.1.2.2.2.frozen 1
    simp only [List.getElem?_toArray, List.getElem?_cons_zero, List.getElem?_cons_succ] at o0 o1
    go_wp2_with fail
    have r1 : Row (w2.setCell ⟨n2, 0, none⟩ (.int .i64 0)) n2 47 #[.int .i64 0, .int .i64 0] := HU2.out.1.2.2.2.set 0 _
    have r2 : Row ((w2.setCell ⟨n2, 0, none⟩ (.int .i64 0)).setCell ⟨n2, 1, none⟩ (.int .i64 0)) n2 47 #[.int .i64 0, .int .i64 0] := r1.set 1 _
    refine bodyPost_ret (results_cell_tmp_row rfl _ _ n2 47 #[.int .i64 0, .int .i64 0] (0, 0) _ rfl r2 Try.underlying47 rfl Try.size47) rfl ?_
    have hn := HN.out
    rw [HR9.out]
    exact ⟨rfl, by rw [← hn.1, ← hn.2.1]; exact (HU2.out.1.1.setCell (p := ⟨n2, 0, none⟩) (by show B0 ≤ n2; omega) _).setCell (p := ⟨n2, 1, none⟩) (by show B0 ≤ n2; omega) _⟩
  · obtain ⟨nd, hnd⟩ := HND.out hpos
    have h0i : ¬ (es.length : Int) = 0 := by omega
    have h0n : ¬ es.length = 0 := by omega
    have h0j : (0 : Int) < (es.length : Int) := by omega
    clear HND
    obtain ⟨DE, hDE⟩ : ∃ n, n = w2.heap.size := ⟨_, rfl⟩
    rw [← hDE] at HU2
    have HDE : Hid (DE ≤ w2.heap.size) := by show DE ≤ _; omega
    clear hDE
    have l0 := HU2.out.1.2.1.cell 0; have l1 := HU2.out.1.2.1.cell 1; have l2 := HU2.out.1.2.1.cell 2; have l3 := HU2.out.1.2.1.cell 3; have l4 := HU2.out.1.2.1.cell 4; have l5 := HU2.out.1.2.1.cell 5; have l6 := HU2.out.1.2.1.cell 6; have l7 := HU2.out.1.2.1.cell 7; have l8 := HU2.out.1.2.1.cell 8; have l9 := HU2.out.1.2.1.cell 9
    simp only [List.getElem?_toArray, List.getElem?_cons_zero, List.getElem?_cons_succ] at l0 l1 l2 l3 l4 l5 l6 l7 l8 l9
    have f0 := HU2.out.1.2.2.1.cell 0; have f1 := HU2.out.1.2.2.1.cell 1
    simp only [List.getElem?_toArray, List.getElem?_cons_zero, List.getElem?_cons_succ] at f0 f1
    go_wp2_with fail
    refine (refNode_any w2 D _ L s k (HV.out.keep HU2.out.1.1 hDB) (by have := HU2.out.1.1.size; omega) HL.out).mono ?_; rintro e w4 ⟨rfl, hb4⟩
    have HU4 : Hid ((Below B0 w w4 ∧ Row w4 n0 37 #[.slice A0 k0 c0, .slice A1 k1 c1, .slice A2 k2 c2, .slice A3 k3 c3, .slice A4 k4 c4, .int .i64 t0, .int .i64 t1, .int .i64 t2, .int .i64 t3, .int .i64 t4] ∧ Row w4 n1 47 #[.int .i64 s, .int .i64 k] ∧ Row w4 n2 47 #[.int .i64 0, .int .i64 0]) ∧ Prs w4 DE (.slice A9 es.length c9) es ∧ DE ≤ w4.heap.size) := ⟨⟨HU2.out.1.1.trans (hb4.mono (by have := HU2.out.1.1.size; omega)), Below.row hb4 HU2.out.1.2.1 HU2.out.1.2.1.lt, Below.row hb4 HU2.out.1.2.2.1 HU2.out.1.2.2.1.lt, Below.row hb4 HU2.out.1.2.2.2 HU2.out.1.2.2.2.lt⟩, HU2.out.2.mono (Nat.le_refl _) (fun kk hk => hb4.block kk (Nat.lt_of_lt_of_le hk HDE.out)), Nat.le_trans HDE.out hb4.size⟩
    rw [hnd]
    simp only [Option.getD_some, Option.isSome_some]
    have HPA : Hid (pointAtL L (s, k) = pointL L.points nd) := by show _ = _; unfold pointAtL; rw [hnd]
    clear hb4 HU2 HDE f0 f1 l0 l1 l2 l3 l4 l5 l6 l7 l8 l9 hnd
    have l0 := HU4.out.1.2.1.cell 0; have l1 := HU4.out.1.2.1.cell 1; have l2 := HU4.out.1.2.1.cell 2; have l3 := HU4.out.1.2.1.cell 3; have l4 := HU4.out.1.2.1.cell 4; have l5 := HU4.out.1.2.1.cell 5; have l6 := HU4.out.1.2.1.cell 6; have l7 := HU4.out.1.2.1.cell 7; have l8 := HU4.out.1.2.1.cell 8; have l9 := HU4.out.1.2.1.cell 9
    simp only [List.getElem?_toArray, List.getElem?_cons_zero, List.getElem?_cons_succ] at l0 l1 l2 l3 l4 l5 l6 l7 l8 l9
    go_wp2_with fail
    refine (refPoint_any w4 D _ L nd (HV.out.keep HU4.out.1.1 hDB) (by have := HU4.out.1.1.size; omega) HL.out).mono ?_; rintro e w5 ⟨rfl, hb5⟩
    have HU : Hid ((Below B0 w w5 ∧ Row w5 n0 37 #[.slice A0 k0 c0, .slice A1 k1 c1, .slice A2 k2 c2, .slice A3 k3 c3, .slice A4 k4 c4, .int .i64 t0, .int .i64 t1, .int .i64 t2, .int .i64 t3, .int .i64 t4] ∧ Row w5 n1 47 #[.int .i64 s, .int .i64 k] ∧ Row w5 n2 47 #[.int .i64 0, .int .i64 0]) ∧ Prs w5 DE (.slice A9 es.length c9) es) := ⟨⟨HU4.out.1.1.trans (hb5.mono (by have := HU4.out.1.1.size; omega)), Below.row hb5 HU4.out.1.2.1 HU4.out.1.2.1.lt, Below.row hb5 HU4.out.1.2.2.1 HU4.out.1.2.2.1.lt, Below.row hb5 HU4.out.1.2.2.2 HU4.out.1.2.2.2.lt⟩, HU4.out.2.1.mono (Nat.le_refl _) (fun kk hk => hb5.block kk (Nat.lt_of_lt_of_le hk HU4.out.2.2))⟩
    clear hb5 HU4 l0 l1 l2 l3 l4 l5 l6 l7 l8 l9
    rw [← HPA.out]
    by_cases hp : 0 ≤ pointAtL L (s, k)
    · obtain ⟨pi, hpi, hpl⟩ := pointAtL_lt hp
      have hqg : L.points.getD pi (0, 0, 0, 0) = L.points[pi] := by simp [List.getD, hpl]
      have HRI : Hid (r = nextP es (s, k) L.points[pi] (right.getD pi false)) := by
        show _ = _
        rw [HE.out, if_neg h0n, if_neg (by omega), hpi]
        simp only [Int.toNat_natCast, hqg]
      rw [hpi]
      obtain ⟨bq, oq, hA3, q0, q1, q2, q3⟩ := (HV.out.keep HU.out.1.1 hDB).point_at pi hpl
      subst hA3
      have hpk : pi < k3 := by have := HK3.out; omega
      have hpc : k3 ≤ 100 := by have := HK3.out; have := HL.out.q; omega
      have hpn : ¬ (pi : Int) < 0 := by omega
      generalize L.points[pi] = y at *
      obtain ⟨p0, p1, p2, p3⟩ := y
      simp only at q0 q1 q2 q3
      clear HE hp hpi hqg HPA hpl
      have l3 := HU.out.1.2.1.cell 3
      simp only [List.getElem?_toArray, List.getElem?_cons_zero, List.getElem?_cons_succ] at l3
      have hil : right.getD pi false = false ∨ ∃ h : pi < right.length, right[pi] = true := by
        by_cases h : pi < right.length
        · rw [List.getD, List.getElem?_eq_getElem h]
          cases hh : right[pi] with
          | true => exact Or.inr ⟨h, hh⟩
          | false => exact Or.inl rfl
        · left; rw [List.getD, List.getElem?_eq_none (by omega)]; rfl
      rcases hil with hf | ⟨hri, hrt⟩
      · by_cases hri : pi < right.length
        · obtain ⟨br, or, hAr, -, cr⟩ := (HRR.out.below HU.out.1.1 (Nat.le_refl _)).at (i := pi) (u := .bool false) (by rw [cvals_get right pi hri]; rw [List.getD, List.getElem?_eq_getElem hri] at hf; simpa using hf)
          subst hAr
          have HHF := Lib.hid hf
          clear hf
          have HLG : Hid (r = if s = p1 then es.find? (fun x => x.1 == p2) else if s = p2 then es.head? else none) := by 
            show _ = _
            rw [HRI.out]
            have e : right.getD pi false = false := HHF.out
            rw [e]
            rfl
          go_upto_region 11 with (fail)
          have f0 := HU.out.1.2.2.1.cell 0; have l3 := HU.out.1.2.1.cell 3
          simp only [List.getElem?_toArray, List.getElem?_cons_zero, List.getElem?_cons_succ] at f0 l3
          by_cases hsp : s = p1
          · have hsb : (s == p1) = true := by simpa using hsp
            have HLL : Hid (r = es.find? (fun x => x.1 == p2)) := by show _ = _; rw [HLG.out, if_pos hsp]
            clear HLG hsp
            go_quiet (fail)
            have HUN : Hid (∀ n, (Below B0 w (w5.drewN n) ∧ Row (w5.drewN n) n0 37 #[.slice A0 k0 c0, .slice A1 k1 c1, .slice A2 k2 c2, .slice (some ⟨bq, oq, none⟩) k3 c3, .slice A4 k4 c4, .int .i64 t0, .int .i64 t1, .int .i64 t2, .int .i64 t3, .int .i64 t4] ∧ Row (w5.drewN n) n1 47 #[.int .i64 s, .int .i64 k] ∧ Row (w5.drewN n) n2 47 #[.int .i64 0, .int .i64 0]) ∧ Prs (w5.drewN n) DE (.slice A9 es.length c9) es) := fun n => ⟨⟨Below.drewN HU.out.1.1 n, HU.out.1.2.1, HU.out.1.2.2.1, HU.out.1.2.2.2⟩, HU.out.2.drewN n⟩
            clear HU f0 l3 q0 q1 q2 q3
            go_upto_region 15 with (fail)
            clear hsb
            have HU6 := Lib.hid (HUN.out nq)
            generalize w5.drewN nq = w6 at *
            clear HUN
            go_wp2_with fail
            go_loop [13] (fun k9 => ∃ j : Nat, j ≤ es.length ∧ k9 = .int .i64 j ∧ Hid (∀ i (hi : i < es.length), i < j → (es[i].1 == p2) = false)) (fun k9 => es.length - (intOf k9).toNat)
            case atStart => exact ⟨0, Nat.zero_le _, rfl, fun i _ h => absurd h (by omega)⟩
            case round =>
              obtain ⟨j, hj, rfl, HNO⟩ := hrel
              by_cases hlt : j < es.length
              · obtain ⟨b9, o9, hA9, -, d0, d1⟩ := HU6.out.2.at j hlt
                subst hA9
                obtain ⟨zz, hzz⟩ : ∃ z, es[j] = z := ⟨_, rfl⟩
                rw [hzz] at d0 d1
                have HZZ := Lib.hid hzz
                clear hzz
                obtain ⟨y0, y1⟩ := zz
                simp only at d0 d1
                by_cases hyl : y0 = p2
                · have hyb : (y0 == p2) = true := by simpa using hyl
                  have HR9 : Hid (r = some (y0, y1)) := by
                    show _ = _
                    rw [HLL.out]
                    refine find_at hlt (by rw [HZZ.out]; exact hyb) (fun i hi hij => HNO.out i hi hij) ?_
                    exact HZZ.out
                  clear hyl
                  have o0 := HU6.out.1.2.2.2.cell 0; have o1 := HU6.out.1.2.2.2.cell 1; have z0 := HU6.out.1.2.2.2.frozen 0; have z1 := HU6.out.1.2.2.2.frozen 1
                  simp only [List.getElem?_toArray, List.getElem?_cons_zero, List.getElem?_cons_succ] at o0 o1
                  go_wp2_with fail
                  have r1 : Row (w6.setCell ⟨n2, 0, none⟩ (.int .i64 y0)) n2 47 #[.int .i64 y0, .int .i64 0] := HU6.out.1.2.2.2.set 0 _
                  have r2 : Row ((w6.setCell ⟨n2, 0, none⟩ (.int .i64 y0)).setCell ⟨n2, 1, none⟩ (.int .i64 y1)) n2 47 #[.int .i64 y0, .int .i64 y1] := r1.set 1 _
                  refine bodyPost_ret (results_cell_tmp_row rfl _ _ n2 47 #[.int .i64 y0, .int .i64 y1] (0, 0) _ rfl r2 Try.underlying47 rfl Try.size47) rfl ?_
                  have hn := HN.out
                  rw [HR9.out]
                  exact ⟨rfl, by rw [← hn.1, ← hn.2.1]; exact (HU6.out.1.1.setCell (p := ⟨n2, 0, none⟩) (by show B0 ≤ n2; omega) _).setCell (p := ⟨n2, 1, none⟩) (by show B0 ≤ n2; omega) _⟩
                · have hyb : (y0 == p2) = false := by simpa using hyl
                  have HN2 : Hid (∀ i (hi : i < es.length), i < j + 1 → (es[i].1 == p2) = false) := fun i hi hij => by
                    rcases Nat.lt_or_ge i j with c | c
                    · exact HNO.out i hi c
                    · obtain rfl : i = j := by omega
                      rw [HZZ.out]; exact hyb
                  go_wp2_with fail
                  go_round
                  case rel => exact ⟨j + 1, by omega, by go_num, HN2⟩
                  case measure => simp [intOf]; omega
              · have HR9 : Hid (r = none) := by
                  show _ = _
                  rw [HLL.out, List.find?_eq_none]
                  intro x hx
                  obtain ⟨i, hi, rfl⟩ := List.getElem_of_mem hx
                  rw [HNO.out i hi (by omega)]; decide
                have o0 := HU6.out.1.2.2.2.cell 0; have o1 := HU6.out.1.2.2.2.cell 1; have z0 := HU6.out.1.2.2.2.frozen 0; have z1 := HU6.out.1.2.2.2.frozen 1
                simp only [List.getElem?_toArray, List.getElem?_cons_zero, List.getElem?_cons_succ] at o0 o1
                go_wp2_with fail
                have r1 : Row (w6.setCell ⟨n2, 0, none⟩ (.int .i64 0)) n2 47 #[.int .i64 0, .int .i64 0] := HU6.out.1.2.2.2.set 0 _
                have r2 : Row ((w6.setCell ⟨n2, 0, none⟩ (.int .i64 0)).setCell ⟨n2, 1, none⟩ (.int .i64 0)) n2 47 #[.int .i64 0, .int .i64 0] := r1.set 1 _
                refine bodyPost_ret (results_cell_tmp_row rfl _ _ n2 47 #[.int .i64 0, .int .i64 0] (0, 0) _ rfl r2 Try.underlying47 rfl Try.size47) rfl ?_
                have hn := HN.out
                rw [HR9.out]
                exact ⟨rfl, by rw [← hn.1, ← hn.2.1]; exact (HU6.out.1.1.setCell (p := ⟨n2, 0, none⟩) (by show B0 ≤ n2; omega) _).setCell (p := ⟨n2, 1, none⟩) (by show B0 ≤ n2; omega) _⟩
          · have hsb : (s == p1) = false := by simpa using hsp
            go_quiet (fail)
            have HUN : Hid (∀ n, (Below B0 w (w5.drewN n) ∧ Row (w5.drewN n) n0 37 #[.slice A0 k0 c0, .slice A1 k1 c1, .slice A2 k2 c2, .slice (some ⟨bq, oq, none⟩) k3 c3, .slice A4 k4 c4, .int .i64 t0, .int .i64 t1, .int .i64 t2, .int .i64 t3, .int .i64 t4] ∧ Row (w5.drewN n) n1 47 #[.int .i64 s, .int .i64 k] ∧ Row (w5.drewN n) n2 47 #[.int .i64 0, .int .i64 0]) ∧ Prs (w5.drewN n) DE (.slice A9 es.length c9) es) := fun n => ⟨⟨Below.drewN HU.out.1.1 n, HU.out.1.2.1, HU.out.1.2.2.1, HU.out.1.2.2.2⟩, HU.out.2.drewN n⟩
            clear HU f0 l3 q0 q1 q2 q3
            go_upto_region 12 with (fail)
            clear hsb
            have HU6 := Lib.hid (HUN.out nq)
            generalize w5.drewN nq = w6 at *
            clear HUN
            have f0 := HU6.out.1.2.2.1.cell 0
            simp only [List.getElem?_toArray, List.getElem?_cons_zero] at f0
            by_cases hsl : s = p2
            · have HLL : Hid (r = es.head?) := by show _ = _; rw [HLG.out, if_neg hsp, if_pos hsl]
              have hsb : (s == p2) = true := by simpa using hsl
              clear HLG hsp hsl
              obtain ⟨b9, o9, hA9, -, d0, d1⟩ := HU6.out.2.at 0 hpos
              subst hA9
              simp only [Nat.zero_mul, Nat.add_zero] at d0 d1
              have HR9 : Hid (r = some es[0]) := by show _ = _; rw [HLL.out, List.head?_eq_getElem?, List.getElem?_eq_getElem hpos]
              generalize es[0] = zz at *
              obtain ⟨y0, y1⟩ := zz
              simp only at d0 d1
              have o0 := HU6.out.1.2.2.2.cell 0; have o1 := HU6.out.1.2.2.2.cell 1; have z0 := HU6.out.1.2.2.2.frozen 0; have z1 := HU6.out.1.2.2.2.frozen 1
              simp only [List.getElem?_toArray, List.getElem?_cons_zero, List.getElem?_cons_succ] at o0 o1
              go_wp2_with fail
              have r1 : Row (w6.setCell ⟨n2, 0, none⟩ (.int .i64 y0)) n2 47 #[.int .i64 y0, .int .i64 0] := HU6.out.1.2.2.2.set 0 _
              have r2 : Row ((w6.setCell ⟨n2, 0, none⟩ (.int .i64 y0)).setCell ⟨n2, 1, none⟩ (.int .i64 y1)) n2 47 #[.int .i64 y0, .int .i64 y1] := r1.set 1 _
              refine bodyPost_ret (results_cell_tmp_row rfl _ _ n2 47 #[.int .i64 y0, .int .i64 y1] (0, 0) _ rfl r2 Try.underlying47 rfl Try.size47) rfl ?_
              have hn := HN.out
              rw [HR9.out]
              exact ⟨rfl, by rw [← hn.1, ← hn.2.1]; exact (HU6.out.1.1.setCell (p := ⟨n2, 0, none⟩) (by show B0 ≤ n2; omega) _).setCell (p := ⟨n2, 1, none⟩) (by show B0 ≤ n2; omega) _⟩
            · have HR9 : Hid (r = none) := by show _ = _; rw [HLG.out, if_neg hsp, if_neg hsl]
              have hsb : (s == p2) = false := by simpa using hsl
              clear HLG hsp
              have o0 := HU6.out.1.2.2.2.cell 0; have o1 := HU6.out.1.2.2.2.cell 1; have z0 := HU6.out.1.2.2.2.frozen 0; have z1 := HU6.out.1.2.2.2.frozen 1
              simp only [List.getElem?_toArray, List.getElem?_cons_zero, List.getElem?_cons_succ] at o0 o1
              go_wp2_with fail
              have r1 : Row (w6.setCell ⟨n2, 0, none⟩ (.int .i64 0)) n2 47 #[.int .i64 0, .int .i64 0] := HU6.out.1.2.2.2.set 0 _
              have r2 : Row ((w6.setCell ⟨n2, 0, none⟩ (.int .i64 0)).setCell ⟨n2, 1, none⟩ (.int .i64 0)) n2 47 #[.int .i64 0, .int .i64 0] := r1.set 1 _
              refine bodyPost_ret (results_cell_tmp_row rfl _ _ n2 47 #[.int .i64 0, .int .i64 0] (0, 0) _ rfl r2 Try.underlying47 rfl Try.size47) rfl ?_
              have hn := HN.out
              rw [HR9.out]
              exact ⟨rfl, by rw [← hn.1, ← hn.2.1]; exact (HU6.out.1.1.setCell (p := ⟨n2, 0, none⟩) (by show B0 ≤ n2; omega) _).setCell (p := ⟨n2, 1, none⟩) (by show B0 ≤ n2; omega) _⟩
        · have hri2 : ¬ (pi : Int) < (right.length : Int) := by omega
          have HHF := Lib.hid hf
          clear hf
          have HLG : Hid (r = if s = p1 then es.find? (fun x => x.1 == p2) else if s = p2 then es.head? else none) := by 
            show _ = _
            rw [HRI.out]
            have e : right.getD pi false = false := HHF.out
            rw [e]
            rfl
          go_upto_region 11 with (fail)
          have f0 := HU.out.1.2.2.1.cell 0; have l3 := HU.out.1.2.1.cell 3
          simp only [List.getElem?_toArray, List.getElem?_cons_zero, List.getElem?_cons_succ] at f0 l3
          by_cases hsp : s = p1
          · have hsb : (s == p1) = true := by simpa using hsp
            have HLL : Hid (r = es.find? (fun x => x.1 == p2)) := by show _ = _; rw [HLG.out, if_pos hsp]
            clear HLG hsp
            go_quiet (fail)
            have HUN : Hid (∀ n, (Below B0 w (w5.drewN n) ∧ Row (w5.drewN n) n0 37 #[.slice A0 k0 c0, .slice A1 k1 c1, .slice A2 k2 c2, .slice (some ⟨bq, oq, none⟩) k3 c3, .slice A4 k4 c4, .int .i64 t0, .int .i64 t1, .int .i64 t2, .int .i64 t3, .int .i64 t4] ∧ Row (w5.drewN n) n1 47 #[.int .i64 s, .int .i64 k] ∧ Row (w5.drewN n) n2 47 #[.int .i64 0, .int .i64 0]) ∧ Prs (w5.drewN n) DE (.slice A9 es.length c9) es) := fun n => ⟨⟨Below.drewN HU.out.1.1 n, HU.out.1.2.1, HU.out.1.2.2.1, HU.out.1.2.2.2⟩, HU.out.2.drewN n⟩
            clear HU f0 l3 q0 q1 q2 q3
            go_upto_region 15 with (fail)
            clear hsb
            have HU6 := Lib.hid (HUN.out nq)
            generalize w5.drewN nq = w6 at *
            clear HUN
            go_wp2_with fail
            go_loop [13] (fun k9 => ∃ j : Nat, j ≤ es.length ∧ k9 = .int .i64 j ∧ Hid (∀ i (hi : i < es.length), i < j → (es[i].1 == p2) = false)) (fun k9 => es.length - (intOf k9).toNat)
            case atStart => exact ⟨0, Nat.zero_le _, rfl, fun i _ h => absurd h (by omega)⟩
            case round =>
              obtain ⟨j, hj, rfl, HNO⟩ := hrel
              by_cases hlt : j < es.length
              · obtain ⟨b9, o9, hA9, -, d0, d1⟩ := HU6.out.2.at j hlt
                subst hA9
                obtain ⟨zz, hzz⟩ : ∃ z, es[j] = z := ⟨_, rfl⟩
                rw [hzz] at d0 d1
                have HZZ := Lib.hid hzz
                clear hzz
                obtain ⟨y0, y1⟩ := zz
                simp only at d0 d1
                by_cases hyl : y0 = p2
                · have hyb : (y0 == p2) = true := by simpa using hyl
                  have HR9 : Hid (r = some (y0, y1)) := by
                    show _ = _
                    rw [HLL.out]
                    refine find_at hlt (by rw [HZZ.out]; exact hyb) (fun i hi hij => HNO.out i hi hij) ?_
                    exact HZZ.out
                  clear hyl
                  have o0 := HU6.out.1.2.2.2.cell 0; have o1 := HU6.out.1.2.2.2.cell 1; have z0 := HU6.out.1.2.2.2.frozen 0; have z1 := HU6.out.1.2.2.2.frozen 1
                  simp only [List.getElem?_toArray, List.getElem?_cons_zero, List.getElem?_cons_succ] at o0 o1
                  go_wp2_with fail
                  have r1 : Row (w6.setCell ⟨n2, 0, none⟩ (.int .i64 y0)) n2 47 #[.int .i64 y0, .int .i64 0] := HU6.out.1.2.2.2.set 0 _
                  have r2 : Row ((w6.setCell ⟨n2, 0, none⟩ (.int .i64 y0)).setCell ⟨n2, 1, none⟩ (.int .i64 y1)) n2 47 #[.int .i64 y0, .int .i64 y1] := r1.set 1 _
                  refine bodyPost_ret (results_cell_tmp_row rfl _ _ n2 47 #[.int .i64 y0, .int .i64 y1] (0, 0) _ rfl r2 Try.underlying47 rfl Try.size47) rfl ?_
                  have hn := HN.out
                  rw [HR9.out]
                  exact ⟨rfl, by rw [← hn.1, ← hn.2.1]; exact (HU6.out.1.1.setCell (p := ⟨n2, 0, none⟩) (by show B0 ≤ n2; omega) _).setCell (p := ⟨n2, 1, none⟩) (by show B0 ≤ n2; omega) _⟩
                · have hyb : (y0 == p2) = false := by simpa using hyl
                  have HN2 : Hid (∀ i (hi : i < es.length), i < j + 1 → (es[i].1 == p2) = false) := fun i hi hij => by
                    rcases Nat.lt_or_ge i j with c | c
                    · exact HNO.out i hi c
                    · obtain rfl : i = j := by omega
                      rw [HZZ.out]; exact hyb
                  go_wp2_with fail
                  go_round
                  case rel => exact ⟨j + 1, by omega, by go_num, HN2⟩
                  case measure => simp [intOf]; omega
              · have HR9 : Hid (r = none) := by
                  show _ = _
                  rw [HLL.out, List.find?_eq_none]
                  intro x hx
                  obtain ⟨i, hi, rfl⟩ := List.getElem_of_mem hx
                  rw [HNO.out i hi (by omega)]; decide
                have o0 := HU6.out.1.2.2.2.cell 0; have o1 := HU6.out.1.2.2.2.cell 1; have z0 := HU6.out.1.2.2.2.frozen 0; have z1 := HU6.out.1.2.2.2.frozen 1
                simp only [List.getElem?_toArray, List.getElem?_cons_zero, List.getElem?_cons_succ] at o0 o1
                go_wp2_with fail
                have r1 : Row (w6.setCell ⟨n2, 0, none⟩ (.int .i64 0)) n2 47 #[.int .i64 0, .int .i64 0] := HU6.out.1.2.2.2.set 0 _
                have r2 : Row ((w6.setCell ⟨n2, 0, none⟩ (.int .i64 0)).setCell ⟨n2, 1, none⟩ (.int .i64 0)) n2 47 #[.int .i64 0, .int .i64 0] := r1.set 1 _
                refine bodyPost_ret (results_cell_tmp_row rfl _ _ n2 47 #[.int .i64 0, .int .i64 0] (0, 0) _ rfl r2 Try.underlying47 rfl Try.size47) rfl ?_
                have hn := HN.out
                rw [HR9.out]
                exact ⟨rfl, by rw [← hn.1, ← hn.2.1]; exact (HU6.out.1.1.setCell (p := ⟨n2, 0, none⟩) (by show B0 ≤ n2; omega) _).setCell (p := ⟨n2, 1, none⟩) (by show B0 ≤ n2; omega) _⟩
          · have hsb : (s == p1) = false := by simpa using hsp
            go_quiet (fail)
            have HUN : Hid (∀ n, (Below B0 w (w5.drewN n) ∧ Row (w5.drewN n) n0 37 #[.slice A0 k0 c0, .slice A1 k1 c1, .slice A2 k2 c2, .slice (some ⟨bq, oq, none⟩) k3 c3, .slice A4 k4 c4, .int .i64 t0, .int .i64 t1, .int .i64 t2, .int .i64 t3, .int .i64 t4] ∧ Row (w5.drewN n) n1 47 #[.int .i64 s, .int .i64 k] ∧ Row (w5.drewN n) n2 47 #[.int .i64 0, .int .i64 0]) ∧ Prs (w5.drewN n) DE (.slice A9 es.length c9) es) := fun n => ⟨⟨Below.drewN HU.out.1.1 n, HU.out.1.2.1, HU.out.1.2.2.1, HU.out.1.2.2.2⟩, HU.out.2.drewN n⟩
            clear HU f0 l3 q0 q1 q2 q3
            go_upto_region 12 with (fail)
            clear hsb
            have HU6 := Lib.hid (HUN.out nq)
            generalize w5.drewN nq = w6 at *
            clear HUN
            have f0 := HU6.out.1.2.2.1.cell 0
            simp only [List.getElem?_toArray, List.getElem?_cons_zero] at f0
            by_cases hsl : s = p2
            · have HLL : Hid (r = es.head?) := by show _ = _; rw [HLG.out, if_neg hsp, if_pos hsl]
              have hsb : (s == p2) = true := by simpa using hsl
              clear HLG hsp hsl
              obtain ⟨b9, o9, hA9, -, d0, d1⟩ := HU6.out.2.at 0 hpos
              subst hA9
              simp only [Nat.zero_mul, Nat.add_zero] at d0 d1
              have HR9 : Hid (r = some es[0]) := by show _ = _; rw [HLL.out, List.head?_eq_getElem?, List.getElem?_eq_getElem hpos]
              generalize es[0] = zz at *
              obtain ⟨y0, y1⟩ := zz
              simp only at d0 d1
              have o0 := HU6.out.1.2.2.2.cell 0; have o1 := HU6.out.1.2.2.2.cell 1; have z0 := HU6.out.1.2.2.2.frozen 0; have z1 := HU6.out.1.2.2.2.frozen 1
              simp only [List.getElem?_toArray, List.getElem?_cons_zero, List.getElem?_cons_succ] at o0 o1
              go_wp2_with fail
              have r1 : Row (w6.setCell ⟨n2, 0, none⟩ (.int .i64 y0)) n2 47 #[.int .i64 y0, .int .i64 0] := HU6.out.1.2.2.2.set 0 _
              have r2 : Row ((w6.setCell ⟨n2, 0, none⟩ (.int .i64 y0)).setCell ⟨n2, 1, none⟩ (.int .i64 y1)) n2 47 #[.int .i64 y0, .int .i64 y1] := r1.set 1 _
              refine bodyPost_ret (results_cell_tmp_row rfl _ _ n2 47 #[.int .i64 y0, .int .i64 y1] (0, 0) _ rfl r2 Try.underlying47 rfl Try.size47) rfl ?_
              have hn := HN.out
              rw [HR9.out]
              exact ⟨rfl, by rw [← hn.1, ← hn.2.1]; exact (HU6.out.1.1.setCell (p := ⟨n2, 0, none⟩) (by show B0 ≤ n2; omega) _).setCell (p := ⟨n2, 1, none⟩) (by show B0 ≤ n2; omega) _⟩
            · have HR9 : Hid (r = none) := by show _ = _; rw [HLG.out, if_neg hsp, if_neg hsl]
              have hsb : (s == p2) = false := by simpa using hsl
              clear HLG hsp
              have o0 := HU6.out.1.2.2.2.cell 0; have o1 := HU6.out.1.2.2.2.cell 1; have z0 := HU6.out.1.2.2.2.frozen 0; have z1 := HU6.out.1.2.2.2.frozen 1
              simp only [List.getElem?_toArray, List.getElem?_cons_zero, List.getElem?_cons_succ] at o0 o1
              go_wp2_with fail
              have r1 : Row (w6.setCell ⟨n2, 0, none⟩ (.int .i64 0)) n2 47 #[.int .i64 0, .int .i64 0] := HU6.out.1.2.2.2.set 0 _
              have r2 : Row ((w6.setCell ⟨n2, 0, none⟩ (.int .i64 0)).setCell ⟨n2, 1, none⟩ (.int .i64 0)) n2 47 #[.int .i64 0, .int .i64 0] := r1.set 1 _
              refine bodyPost_ret (results_cell_tmp_row rfl _ _ n2 47 #[.int .i64 0, .int .i64 0] (0, 0) _ rfl r2 Try.underlying47 rfl Try.size47) rfl ?_
              have hn := HN.out
              rw [HR9.out]
              exact ⟨rfl, by rw [← hn.1, ← hn.2.1]; exact (HU6.out.1.1.setCell (p := ⟨n2, 0, none⟩) (by show B0 ≤ n2; omega) _).setCell (p := ⟨n2, 1, none⟩) (by show B0 ≤ n2; omega) _⟩
      · have hf : right.getD pi false = true := by rw [List.getD, List.getElem?_eq_getElem hri]; simpa using hrt
        obtain ⟨br, or, hAr, -, cr⟩ := (HRR.out.below HU.out.1.1 (Nat.le_refl _)).at (i := pi) (u := .bool true) (by rw [cvals_get right pi hri, hrt])
        subst hAr
        have HHF := Lib.hid hf
        clear hf hrt
        have HLG : Hid (r = if s = p1 then es.find? (fun x => x.1 == p3) else if s = p3 then es.head? else none) := by 
          show _ = _
          rw [HRI.out]
          have e : right.getD pi false = true := HHF.out
          rw [e]
          rfl
        go_upto_region 11 with (fail)
        have f0 := HU.out.1.2.2.1.cell 0; have l3 := HU.out.1.2.1.cell 3
        simp only [List.getElem?_toArray, List.getElem?_cons_zero, List.getElem?_cons_succ] at f0 l3
        by_cases hsp : s = p1
        · have hsb : (s == p1) = true := by simpa using hsp
          have HLL : Hid (r = es.find? (fun x => x.1 == p3)) := by show _ = _; rw [HLG.out, if_pos hsp]
          clear HLG hsp
          go_quiet (fail)
          have HUN : Hid (∀ n, (Below B0 w (w5.drewN n) ∧ Row (w5.drewN n) n0 37 #[.slice A0 k0 c0, .slice A1 k1 c1, .slice A2 k2 c2, .slice (some ⟨bq, oq, none⟩) k3 c3, .slice A4 k4 c4, .int .i64 t0, .int .i64 t1, .int .i64 t2, .int .i64 t3, .int .i64 t4] ∧ Row (w5.drewN n) n1 47 #[.int .i64 s, .int .i64 k] ∧ Row (w5.drewN n) n2 47 #[.int .i64 0, .int .i64 0]) ∧ Prs (w5.drewN n) DE (.slice A9 es.length c9) es) := fun n => ⟨⟨Below.drewN HU.out.1.1 n, HU.out.1.2.1, HU.out.1.2.2.1, HU.out.1.2.2.2⟩, HU.out.2.drewN n⟩
          clear HU f0 l3 q0 q1 q2 q3
          go_upto_region 15 with (fail)
          clear hsb
          have HU6 := Lib.hid (HUN.out nq)
          generalize w5.drewN nq = w6 at *
          clear HUN
          go_wp2_with fail
          go_loop [13] (fun k9 => ∃ j : Nat, j ≤ es.length ∧ k9 = .int .i64 j ∧ Hid (∀ i (hi : i < es.length), i < j → (es[i].1 == p3) = false)) (fun k9 => es.length - (intOf k9).toNat)
          case atStart => exact ⟨0, Nat.zero_le _, rfl, fun i _ h => absurd h (by omega)⟩
          case round =>
            obtain ⟨j, hj, rfl, HNO⟩ := hrel
            by_cases hlt : j < es.length
            · obtain ⟨b9, o9, hA9, -, d0, d1⟩ := HU6.out.2.at j hlt
              subst hA9
              obtain ⟨zz, hzz⟩ : ∃ z, es[j] = z := ⟨_, rfl⟩
              rw [hzz] at d0 d1
              have HZZ := Lib.hid hzz
              clear hzz
              obtain ⟨y0, y1⟩ := zz
              simp only at d0 d1
              by_cases hyl : y0 = p3
              · have hyb : (y0 == p3) = true := by simpa using hyl
                have HR9 : Hid (r = some (y0, y1)) := by
                  show _ = _
                  rw [HLL.out]
                  refine find_at hlt (by rw [HZZ.out]; exact hyb) (fun i hi hij => HNO.out i hi hij) ?_
                  exact HZZ.out
                clear hyl
                have o0 := HU6.out.1.2.2.2.cell 0; have o1 := HU6.out.1.2.2.2.cell 1; have z0 := HU6.out.1.2.2.2.frozen 0; have z1 := HU6.out.1.2.2.2.frozen 1
                simp only [List.getElem?_toArray, List.getElem?_cons_zero, List.getElem?_cons_succ] at o0 o1
                go_wp2_with fail
                have r1 : Row (w6.setCell ⟨n2, 0, none⟩ (.int .i64 y0)) n2 47 #[.int .i64 y0, .int .i64 0] := HU6.out.1.2.2.2.set 0 _
                have r2 : Row ((w6.setCell ⟨n2, 0, none⟩ (.int .i64 y0)).setCell ⟨n2, 1, none⟩ (.int .i64 y1)) n2 47 #[.int .i64 y0, .int .i64 y1] := r1.set 1 _
                refine bodyPost_ret (results_cell_tmp_row rfl _ _ n2 47 #[.int .i64 y0, .int .i64 y1] (0, 0) _ rfl r2 Try.underlying47 rfl Try.size47) rfl ?_
                have hn := HN.out
                rw [HR9.out]
                exact ⟨rfl, by rw [← hn.1, ← hn.2.1]; exact (HU6.out.1.1.setCell (p := ⟨n2, 0, none⟩) (by show B0 ≤ n2; omega) _).setCell (p := ⟨n2, 1, none⟩) (by show B0 ≤ n2; omega) _⟩
              · have hyb : (y0 == p3) = false := by simpa using hyl
                have HN2 : Hid (∀ i (hi : i < es.length), i < j + 1 → (es[i].1 == p3) = false) := fun i hi hij => by
                  rcases Nat.lt_or_ge i j with c | c
                  · exact HNO.out i hi c
                  · obtain rfl : i = j := by omega
                    rw [HZZ.out]; exact hyb
                go_wp2_with fail
                go_round
                case rel => exact ⟨j + 1, by omega, by go_num, HN2⟩
                case measure => simp [intOf]; omega
            · have HR9 : Hid (r = none) := by
                show _ = _
                rw [HLL.out, List.find?_eq_none]
                intro x hx
                obtain ⟨i, hi, rfl⟩ := List.getElem_of_mem hx
                rw [HNO.out i hi (by omega)]; decide
              have o0 := HU6.out.1.2.2.2.cell 0; have o1 := HU6.out.1.2.2.2.cell 1; have z0 := HU6.out.1.2.2.2.frozen 0; have z1 := HU6.out.1.2.2.2.frozen 1
              simp only [List.getElem?_toArray, List.getElem?_cons_zero, List.getElem?_cons_succ] at o0 o1
              go_wp2_with fail
              have r1 : Row (w6.setCell ⟨n2, 0, none⟩ (.int .i64 0)) n2 47 #[.int .i64 0, .int .i64 0] := HU6.out.1.2.2.2.set 0 _
              have r2 : Row ((w6.setCell ⟨n2, 0, none⟩ (.int .i64 0)).setCell ⟨n2, 1, none⟩ (.int .i64 0)) n2 47 #[.int .i64 0, .int .i64 0] := r1.set 1 _
              refine bodyPost_ret (results_cell_tmp_row rfl _ _ n2 47 #[.int .i64 0, .int .i64 0] (0, 0) _ rfl r2 Try.underlying47 rfl Try.size47) rfl ?_
              have hn := HN.out
              rw [HR9.out]
              exact ⟨rfl, by rw [← hn.1, ← hn.2.1]; exact (HU6.out.1.1.setCell (p := ⟨n2, 0, none⟩) (by show B0 ≤ n2; omega) _).setCell (p := ⟨n2, 1, none⟩) (by show B0 ≤ n2; omega) _⟩
        · have hsb : (s == p1) = false := by simpa using hsp
          go_quiet (fail)
          have HUN : Hid (∀ n, (Below B0 w (w5.drewN n) ∧ Row (w5.drewN n) n0 37 #[.slice A0 k0 c0, .slice A1 k1 c1, .slice A2 k2 c2, .slice (some ⟨bq, oq, none⟩) k3 c3, .slice A4 k4 c4, .int .i64 t0, .int .i64 t1, .int .i64 t2, .int .i64 t3, .int .i64 t4] ∧ Row (w5.drewN n) n1 47 #[.int .i64 s, .int .i64 k] ∧ Row (w5.drewN n) n2 47 #[.int .i64 0, .int .i64 0]) ∧ Prs (w5.drewN n) DE (.slice A9 es.length c9) es) := fun n => ⟨⟨Below.drewN HU.out.1.1 n, HU.out.1.2.1, HU.out.1.2.2.1, HU.out.1.2.2.2⟩, HU.out.2.drewN n⟩
          clear HU f0 l3 q0 q1 q2 q3
          go_upto_region 12 with (fail)
          clear hsb
          have HU6 := Lib.hid (HUN.out nq)
          generalize w5.drewN nq = w6 at *
          clear HUN
          have f0 := HU6.out.1.2.2.1.cell 0
          simp only [List.getElem?_toArray, List.getElem?_cons_zero] at f0
          by_cases hsl : s = p3
          · have HLL : Hid (r = es.head?) := by show _ = _; rw [HLG.out, if_neg hsp, if_pos hsl]
            have hsb : (s == p3) = true := by simpa using hsl
            clear HLG hsp hsl
            obtain ⟨b9, o9, hA9, -, d0, d1⟩ := HU6.out.2.at 0 hpos
            subst hA9
            simp only [Nat.zero_mul, Nat.add_zero] at d0 d1
            have HR9 : Hid (r = some es[0]) := by show _ = _; rw [HLL.out, List.head?_eq_getElem?, List.getElem?_eq_getElem hpos]
            generalize es[0] = zz at *
            obtain ⟨y0, y1⟩ := zz
            simp only at d0 d1
            have o0 := HU6.out.1.2.2.2.cell 0; have o1 := HU6.out.1.2.2.2.cell 1; have z0 := HU6.out.1.2.2.2.frozen 0; have z1 := HU6.out.1.2.2.2.frozen 1
            simp only [List.getElem?_toArray, List.getElem?_cons_zero, List.getElem?_cons_succ] at o0 o1
            go_wp2_with fail
            have r1 : Row (w6.setCell ⟨n2, 0, none⟩ (.int .i64 y0)) n2 47 #[.int .i64 y0, .int .i64 0] := HU6.out.1.2.2.2.set 0 _
            have r2 : Row ((w6.setCell ⟨n2, 0, none⟩ (.int .i64 y0)).setCell ⟨n2, 1, none⟩ (.int .i64 y1)) n2 47 #[.int .i64 y0, .int .i64 y1] := r1.set 1 _
            refine bodyPost_ret (results_cell_tmp_row rfl _ _ n2 47 #[.int .i64 y0, .int .i64 y1] (0, 0) _ rfl r2 Try.underlying47 rfl Try.size47) rfl ?_
            have hn := HN.out
            rw [HR9.out]
            exact ⟨rfl, by rw [← hn.1, ← hn.2.1]; exact (HU6.out.1.1.setCell (p := ⟨n2, 0, none⟩) (by show B0 ≤ n2; omega) _).setCell (p := ⟨n2, 1, none⟩) (by show B0 ≤ n2; omega) _⟩
          · have HR9 : Hid (r = none) := by show _ = _; rw [HLG.out, if_neg hsp, if_neg hsl]
            have hsb : (s == p3) = false := by simpa using hsl
            clear HLG hsp
            have o0 := HU6.out.1.2.2.2.cell 0; have o1 := HU6.out.1.2.2.2.cell 1; have z0 := HU6.out.1.2.2.2.frozen 0; have z1 := HU6.out.1.2.2.2.frozen 1
            simp only [List.getElem?_toArray, List.getElem?_cons_zero, List.getElem?_cons_succ] at o0 o1
            go_wp2_with fail
            have r1 : Row (w6.setCell ⟨n2, 0, none⟩ (.int .i64 0)) n2 47 #[.int .i64 0, .int .i64 0] := HU6.out.1.2.2.2.set 0 _
            have r2 : Row ((w6.setCell ⟨n2, 0, none⟩ (.int .i64 0)).setCell ⟨n2, 1, none⟩ (.int .i64 0)) n2 47 #[.int .i64 0, .int .i64 0] := r1.set 1 _
            refine bodyPost_ret (results_cell_tmp_row rfl _ _ n2 47 #[.int .i64 0, .int .i64 0] (0, 0) _ rfl r2 Try.underlying47 rfl Try.size47) rfl ?_
            have hn := HN.out
            rw [HR9.out]
            exact ⟨rfl, by rw [← hn.1, ← hn.2.1]; exact (HU6.out.1.1.setCell (p := ⟨n2, 0, none⟩) (by show B0 ≤ n2; omega) _).setCell (p := ⟨n2, 1, none⟩) (by show B0 ≤ n2; omega) _⟩
    · have HRI : Hid (r = es.head?) := by
        show _ = _
        rw [HE.out, if_neg h0n, if_pos (by omega)]
      have hpn : ¬ (0 : Int) ≤ pointAtL L (s, k) := hp
      have hpm : pointAtL L (s, k) < 0 := by omega
      clear HE HPA
      generalize pointAtL L (s, k) = pp at *
      obtain ⟨b9, o9, hA9, -, d0, d1⟩ := HU.out.2.at 0 hpos
      subst hA9
      simp only [Nat.zero_mul, Nat.add_zero] at d0 d1
      have HR9 : Hid (r = some es[0]) := by show _ = _; rw [HRI.out, List.head?_eq_getElem?, List.getElem?_eq_getElem hpos]
      generalize es[0] = zz at *
      obtain ⟨y0, y1⟩ := zz
      simp only at d0 d1
      have o0 := HU.out.1.2.2.2.cell 0; have o1 := HU.out.1.2.2.2.cell 1; have z0 := HU.out.1.2.2.2.frozen 0; have z1 := HU.out.1.2.2.2.frozen 1
      simp only [List.getElem?_toArray, List.getElem?_cons_zero, List.getElem?_cons_succ] at o0 o1
      go_wp2_with fail
      have r1 : Row (w5.setCell ⟨n2, 0, none⟩ (.int .i64 y0)) n2 47 #[.int .i64 y0, .int .i64 0] := HU.out.1.2.2.2.set 0 _
      have r2 : Row ((w5.setCell ⟨n2, 0, none⟩ (.int .i64 y0)).setCell ⟨n2, 1, none⟩ (.int .i64 y1)) n2 47 #[.int .i64 y0, .int .i64 y1] := r1.set 1 _
      refine bodyPost_ret (results_cell_tmp_row rfl _ _ n2 47 #[.int .i64 y0, .int .i64 y1] (0, 0) _ rfl r2 Try.underlying47 rfl Try.size47) rfl ?_
      have hn := HN.out
      rw [HR9.out]
      exact ⟨rfl, by rw [← hn.1, ← hn.2.1]; exact (HU.out.1.1.setCell (p := ⟨n2, 0, none⟩) (by show B0 ≤ n2; omega) _).setCell (p := ⟨n2, 1, none⟩) (by show B0 ≤ n2; omega) _⟩

end Go.Proofs.Ytbomkifnhkmkoaa
