/- Contracts of the document: Find, holds. -/
import Derived.Test.YthnjilbfkfekhaaO4
import Derived.BigQuiet
namespace Go.Proofs.Ythnjilbfkfekhaa
open Go.RowKit Fl
set_option maxRecDepth 100000

set_option maxHeartbeats 2000000 in
theorem refFind_any (w : World) (D : Nat) (v : Value) (ps : List Vw) (n : Int) (h : Vws w D v ps) (hD : D ≤ w.heap.size) (hl : ps.length ≤ 100) :
    Calls Try.prog 20 #[v, .int .i64 n] w (RetFind D (findV ps n) w) := by
  have hb1 := (Below.refl w.heap.size w).alloc (Nat.le_refl _) (.cells #[.int .i64 0, .bool false, .slice none 0 0] 55)
  have HV := Lib.hid (h.below hb1 hD)
  have HB1 := Lib.hid hb1
  have HR1 := Lib.hid (Row.new w 55 #[.int .i64 0, .bool false, .slice none 0 0])
  obtain ⟨A, c, vs, rfl, -⟩ := h
  clear hb1
  obtain ⟨m, hm⟩ : ∃ m, ps.length = m := ⟨_, rfl⟩
  rw [hm] at HV hl ⊢
  have HM := Lib.hid hm
  clear hm
  go_enter Try.func20, Try.ntmps20
  go_upto_region 1 with (fail)
  obtain ⟨n1, hn1⟩ : ∃ n, n = w.heap.size := ⟨_, rfl⟩
  have HN : Hid (n1 = w.heap.size) := hn1
  rw [← hn1] at HR1 ⊢
  clear hn1
  generalize w.alloc (.cells #[.int .i64 0, .bool false, .slice none 0 0] 55) = W0 at *
  go_wp2_with fail
  go_loopw [6] (fun k wr => ∃ i : Nat, i ≤ m ∧ k = .int .i64 i ∧ Hid ((∀ j (hj : j < ps.length), j < i → ps[j].1 ≠ n) ∧ wr = W0)) (fun k _ => m - (intOf k).toNat)
  case atStart => exact ⟨0, Nat.zero_le _, rfl, (fun j _ hj => absurd hj (by omega)), rfl⟩
  case round =>
    obtain ⟨i, hi, rfl, HJ⟩ := hrel
    have hwr := HJ.out.2
    subst hwr
    have o0 := HR1.out.cell 0; have o1 := HR1.out.cell 1; have o2 := HR1.out.cell 2
    have q0 := HR1.out.frozen 0; have q1 := HR1.out.frozen 1; have q2 := HR1.out.frozen 2
    simp only [List.getElem?_toArray, List.getElem?_cons_zero, List.getElem?_cons_succ] at o0 o1 o2
    by_cases hlt : i < m
    · have him : i < ps.length := by have := HM.out; omega
      have hli : (i : Int) < (m : Int) := by omega
      obtain ⟨b, o, A1, c1, hA, hb, c0, c2, c3, h4⟩ := HV.out.at i him
      subst hA
      have HS := Lib.hid h4
      have HQ1 : Hid (ps[i].1 = n → findV ps n = some ps[i]) := fun e => findV_at him e HJ.out.1
      have HQ2 : Hid (ps[i].1 ≠ n → ∀ j (hj : j < ps.length), j < i + 1 → ps[j].1 ≠ n) := fun e j hj hji => by
        rcases Nat.lt_or_ge j i with c | c
        · exact HJ.out.1 j hj c
        · obtain rfl : j = i := by omega
          exact e
      clear h4
      generalize ps[i] = z at *
      obtain ⟨z0, z1, z2⟩ := z
      simp only at c0 c2 c3 HS HQ1 HQ2
      obtain ⟨zl, hzl⟩ : ∃ x, z2.length = x := ⟨_, rfl⟩
      have HZL := Lib.hid hzl
      rw [hzl] at c3 HS
      clear hzl
      by_cases hz : z0 = n
      · have HF := Lib.hid (HQ1.out hz)
        subst hz
        have hz2 : (z0 == z0) = true := by simp
        go_wp2_with fail
        have r1 := HR1.out.set 0 (.int .i64 z0)
        have r2 := r1.set 1 (.bool z1)
        have r3 := r2.set 2 (.slice A1 zl c1)
        have hn := HN.out
        refine bodyPost_ret (results_cell_tmp_row rfl _ _ n1 55 #[.int .i64 z0, .bool z1, .slice A1 zl c1] (0, 0) _ rfl r3 Try.underlying55 rfl Try.size55) rfl ?_
        rw [HF.out]
        have hbb : Below w.heap.size wr (((wr.setCell ⟨n1, 0, none⟩ (.int .i64 z0)).setCell ⟨n1, 1, none⟩ (.bool z1)).setCell ⟨n1, 2, none⟩ (.slice A1 zl c1)) := (((Below.refl _ _).setCell (p := ⟨n1, 0, none⟩) (by show _ ≤ n1; omega) _).setCell (p := ⟨n1, 1, none⟩) (by show _ ≤ n1; omega) _).setCell (p := ⟨n1, 2, none⟩) (by show _ ≤ n1; omega) _
        refine ⟨A1, c1, by simp only [Option.getD_some, HZL.out]; rfl, ?_, HB1.out.trans hbb⟩
        show Rd _ D (.slice A1 z2.length c1) (ivals z2)
        rw [HZL.out]
        exact HS.out.below hbb hD
      · have hz2 : (z0 == n) = false := by simpa using hz
        have HN2 := Lib.hid (HQ2.out hz)
        clear o0 o1 o2 q0 q1 q2
        go_wp2_with fail
        go_roundw
        case rel => exact ⟨i + 1, by omega, by go_num, HN2.out, by first | rfl | trivial⟩
        case measure => simp [intOf]; omega
    · have hli : ¬ (i : Int) < (m : Int) := by omega
      have HR3 : Hid (findV ps n = none) := findV_none fun j hj => HJ.out.1 j hj (by have := HM.out; omega)
      go_wp2_with fail
      have r1 := HR1.out.set 0 (.int .i64 0)
      have r2 := r1.set 1 (.bool false)
      have r3 := r2.set 2 (.slice none 0 0)
      have hn := HN.out
      refine bodyPost_ret (results_cell_tmp_row rfl _ _ n1 55 #[.int .i64 0, .bool false, .slice none 0 0] (0, 0) _ rfl r3 Try.underlying55 rfl Try.size55) rfl ?_
      rw [HR3.out]
      have hbb : Below w.heap.size wr (((wr.setCell ⟨n1, 0, none⟩ (.int .i64 0)).setCell ⟨n1, 1, none⟩ (.bool false)).setCell ⟨n1, 2, none⟩ (.slice none 0 0)) := (((Below.refl _ _).setCell (p := ⟨n1, 0, none⟩) (by show _ ≤ n1; omega) _).setCell (p := ⟨n1, 1, none⟩) (by show _ ≤ n1; omega) _).setCell (p := ⟨n1, 2, none⟩) (by show _ ≤ n1; omega) _
      exact ⟨none, 0, rfl, Rd.empty _ _, HB1.out.trans hbb⟩

theorem meetsB_comm_aux (a b : List Int) : meetsB b a = meetsB a b := meets_comm b a

set_option maxHeartbeats 4000000 in
theorem holds_any (w : World) (vl vv : Value) (L : Lay) (xs : List Vw) (p : Nat) (tr : Int) (hlay : LayV w w.heap.size vl L) (hL : Fits L) (hp : p < L.parts.length) (hv : Vws w w.heap.size vv xs) (hx : OkV xs) :
    Calls Try.prog 36 #[vl, vv, .int .i64 (p : Int), .int .i64 tr] w (RetL (holdsB xs (L.parts.getD p []) tr) w) := by
  obtain ⟨A0, k0, c0, A1, k1, c1, A2, k2, c2, A3, k3, c3, A4, k4, c4, t0, t1, t2, t3, t4, hvl, _, _, hk2, _⟩ := hlay.lens
  subst hvl
  have hb0 := (Below.refl w.heap.size w).alloc (Nat.le_refl _) (.cells #[.slice A0 k0 c0, .slice A1 k1 c1, .slice A2 k2 c2, .slice A3 k3 c3, .slice A4 k4 c4, .int .i64 t0, .int .i64 t1, .int .i64 t2, .int .i64 t3, .int .i64 t4] 39)
  have HB0 := Lib.hid hb0
  have hr0 := Row.new w 39 #[.slice A0 k0 c0, .slice A1 k1 c1, .slice A2 k2 c2, .slice A3 k3 c3, .slice A4 k4 c4, .int .i64 t0, .int .i64 t1, .int .i64 t2, .int .i64 t3, .int .i64 t4]
  have HR0 := Lib.hid hr0
  have HV0 := Lib.hid (hv.below hb0 (Nat.le_refl _))
  obtain ⟨bp, op, vsec, hA2, q0, hq⟩ := (hlay.up hb0).part_at p hp
  subst hA2
  have hpi : (p : Int) < (k2 : Int) := by omega
  have hlnp := hL.r L.parts[p] (List.getElem_mem hp)
  have hsp : L.parts.getD p [] = L.parts[p] := by simp [List.getD, hp]
  rw [hsp]
  have hbp := hq.below (w' := w.alloc (.cells #[.slice A0 k0 c0, .slice A1 k1 c1, .slice (some ⟨bp, op, none⟩) k2 c2, .slice A3 k3 c3, .slice A4 k4 c4, .int .i64 t0, .int .i64 t1, .int .i64 t2, .int .i64 t3, .int .i64 t4] 39)) (Below.refl _ _) (Nat.le_refl _)
  have HSEC := Lib.hid hbp
  obtain ⟨As, cs, rfl, -, -⟩ := id hbp
  generalize L.parts[p] = sec at *
  have HQ0 := Lib.hid q0
  obtain ⟨Av, cv, vvs, rfl, -⟩ := id hv
  have HX := Lib.hid hx
  have HLN := Lib.hid hlnp
  have hsl : (ivals sec).length = sec.length := by simp [ivals]
  rw [hsl] at HSEC HQ0
  clear hlay hb0 hr0 hq hbp q0 hlnp hsp hx hL hp hk2 hsl hv
  go_enter Try.func36, Try.ntmps36
  go_upto_region 1 with (fail)
  obtain ⟨n0, hn0⟩ : ∃ n, n = w.heap.size := ⟨_, rfl⟩
  have HN : Hid (n0 = w.heap.size) := hn0
  rw [← hn0] at HR0 ⊢
  clear hn0
  generalize w.alloc (.cells #[.slice A0 k0 c0, .slice A1 k1 c1, .slice (some ⟨bp, op, none⟩) k2 c2, .slice A3 k3 c3, .slice A4 k4 c4, .int .i64 t0, .int .i64 t1, .int .i64 t2, .int .i64 t3, .int .i64 t4] 39) = W0 at *
  have HFI := Lib.hid (refFind_any W0 w.heap.size _ xs tr HV0.out HB0.out.size HX.out.len)
  go_wp2_with fail
  refine HFI.out.mono ?_; rintro e w5 ⟨A5, c5, rfl, h5, hb5⟩
  have HB5 : Hid (Below w.heap.size w w5) := HB0.out.trans (hb5.mono HB0.out.size)
  have HR5 := Lib.hid (Below.row hb5 HR0.out HR0.out.lt)
  have HSEC5 := Lib.hid (HSEC.out.up hb5)
  have HQ5 : Hid (w5.cell? ⟨bp, op + p, none⟩ = some (.slice As sec.length cs)) := (hb5.cell (p := ⟨bp, op + p, none⟩) (cell_lt HQ0.out)).trans HQ0.out
  clear hb5 HFI HB0 HR0 HV0 HSEC HQ0
  obtain ⟨bo, hbo⟩ : ∃ b, holdsB xs sec tr = b := ⟨_, rfl⟩
  have HBO := Lib.hid hbo
  rw [hbo]
  clear hbo
  cases hfv : findV xs tr with
  | none =>
    have hpo : bo = false := by rw [← HBO.out]; unfold holdsB; rw [hfv]
    subst hpo
    have hb6 := (Below.refl w5.heap.size w5).alloc (Nat.le_refl _) (.cells #[.int .i64 noV.1, .bool noV.2.1, .slice A5 noV.2.2.length c5] 55)
    have HJ6 : Hid (Below w.heap.size w (w5.alloc (.cells #[.int .i64 noV.1, .bool noV.2.1, .slice A5 noV.2.2.length c5] 55))) := HB5.out.trans (hb6.mono HB5.out.size)
    have hr6 := Row.new w5 55 #[.int .i64 noV.1, .bool noV.2.1, .slice A5 noV.2.2.length c5]
    have m1 := hr6.cell 1; have m2 := hr6.cell 2
    have l2 := (Below.row hb6 HR5.out HR5.out.lt).cell 2
    simp only [List.getElem?_toArray, List.getElem?_cons_zero, List.getElem?_cons_succ] at m1 m2 l2
    clear hfv hb6 h5 HSEC5 HQ5 HR5 hr6
    go_upto_region 2 with (fail)
    generalize w5.alloc (.cells #[.int .i64 noV.1, .bool noV.2.1, .slice A5 noV.2.2.length c5] 55) = w6 at *
    go_quiet (fail)
    go_wp2_with fail
    go_ret
    rw [HBO.out]
    exact ⟨rfl, Below.drewN HJ6.out _⟩
  | some z =>
    rw [hfv] at h5
    obtain ⟨z0, z1, z2⟩ := z
    have hzm : (z0, z1, z2) ∈ xs := List.mem_of_find?_eq_some hfv
    have hzs := HX.out.span _ hzm
    have hpo : bo = (z1 && meetsB z2 sec) := by rw [← HBO.out]; unfold holdsB; rw [hfv]; rfl
    have hb6 := (Below.refl w5.heap.size w5).alloc (Nat.le_refl _) (.cells #[.int .i64 z0, .bool z1, .slice A5 z2.length c5] 55)
    have HJ6 : Hid (Below w.heap.size w (w5.alloc (.cells #[.int .i64 z0, .bool z1, .slice A5 z2.length c5] 55))) := HB5.out.trans (hb6.mono HB5.out.size)
    have hr6 := Row.new w5 55 #[.int .i64 z0, .bool z1, .slice A5 z2.length c5]
    have m1 := hr6.cell 1; have m2 := hr6.cell 2
    have l2 := (Below.row hb6 HR5.out HR5.out.lt).cell 2
    simp only [List.getElem?_toArray, List.getElem?_cons_zero, List.getElem?_cons_succ] at m1 m2 l2
    have h5' : Rd w5 w5.heap.size (.slice A5 z2.length c5) (ivals z2) := Rd.mono h5 HB5.out.size (fun _ _ => rfl)
    have hmm := meetsB_comm_aux z2 sec
    have l3 := (hb6.cell (p := ⟨bp, op + p, none⟩) (cell_lt HQ5.out)).trans HQ5.out
    cases z1 with
    | false =>
      have hbf : bo = false := by rw [hpo, Bool.false_and]
      subst hbf
      clear hfv hb6 h5 h5' HSEC5 HQ5 HR5 hr6 hzm hzs hpo hmm
      go_upto_region 2 with (fail)
      generalize z2.length = zl at *
      generalize w5.alloc (.cells #[.int .i64 z0, .bool false, .slice A5 zl c5] 55) = w6 at *
      go_quiet (fail)
      go_wp2_with fail
      go_ret
      rw [HBO.out]
      exact ⟨rfl, Below.drewN HJ6.out _⟩
    | true =>
      rw [Bool.true_and, ← hmm] at hpo
      have hbd := (Below.refl (w5.alloc (.cells #[.int .i64 z0, .bool true, .slice A5 z2.length c5] 55)).heap.size (w5.alloc (.cells #[.int .i64 z0, .bool true, .slice A5 z2.length c5] 55))).drew
      have HM := Lib.hid (refMeets_any (w5.alloc (.cells #[.int .i64 z0, .bool true, .slice A5 z2.length c5] 55)).drew _ _ z2 sec ((h5'.up hb6).up hbd) ((HSEC5.out.up hb6).up hbd) hzs.1 (by have := HLN.out; omega))
      have HQ6 := Lib.hid l3
      have HRa := Lib.hid (Below.row hb6 HR5.out HR5.out.lt); have HRb := Lib.hid hr6
      have HSI := Lib.hid (show (w5.alloc (.cells #[.int .i64 z0, .bool true, .slice A5 z2.length c5] 55)).heap.size = (w5.alloc (.cells #[.int .i64 z0, .bool true, .slice A5 z2.length c5] 55)).drew.heap.size from rfl)
      rw [← hpo] at HM
      clear hfv hb6 h5 h5' HSEC5 HQ5 HR5 hr6 hzm hzs hpo hmm hbd
      generalize sec.length = sl at *
      go_upto_region 2 with (fail)
      generalize z2.length = zl at *
      obtain ⟨n5, hn5⟩ : ∃ n, n = w5.heap.size := ⟨_, rfl⟩
      rw [← hn5] at m1 m2 HRb ⊢
      clear hn5
      generalize w5.alloc (.cells #[.int .i64 z0, .bool true, .slice A5 zl c5] 55) = w6 at *
      have s0 : w6.drew.cell? ⟨n0, 2, none⟩ = some (.slice (some ⟨bp, op, none⟩) k2 c2) ∧ w6.drew.cell? ⟨n5, 1, none⟩ = some (.bool true) ∧ w6.drew.cell? ⟨n5, 2, none⟩ = some (.slice A5 zl c5) ∧ w6.drew.cell? ⟨bp, op + p, none⟩ = some (.slice As sl cs) := ⟨l2, m1, m2, l3⟩
      obtain ⟨r0, r1, r2, r3⟩ := (show _ from s0)
      clear l2 m1 m2 l3
      go_region_held3 (fun w' => w'.cell? ⟨n0, 2, none⟩ = some (.slice (some ⟨bp, op, none⟩) k2 c2) ∧ w'.cell? ⟨n5, 1, none⟩ = some (.bool true) ∧ w'.cell? ⟨n5, 2, none⟩ = some (.slice A5 zl c5) ∧ w'.cell? ⟨bp, op + p, none⟩ = some (.slice As sl cs)) (first | (with_reducible assumption) | (with_reducible exact s0) | go_keep) (first | (go_at_call 22; (with_reducible refine HM.out.mono ?_); rintro y v1 ⟨rfl, hb1⟩; have d1 : v1.cell? ⟨n0, 2, none⟩ = some (.slice (some ⟨bp, op, none⟩) k2 c2) ∧ v1.cell? ⟨n5, 1, none⟩ = some (.bool true) ∧ v1.cell? ⟨n5, 2, none⟩ = some (.slice A5 zl c5) ∧ v1.cell? ⟨bp, op + p, none⟩ = some (.slice As sl cs) := ⟨(Below.row hb1 HRa.out HRa.out.lt).cell 2, (Below.row hb1 HRb.out HRb.out.lt).cell 1, (Below.row hb1 HRb.out HRb.out.lt).cell 2, (hb1.cell (p := ⟨bp, op + p, none⟩) (cell_lt HQ6.out)).trans HQ6.out⟩; have HV1 : Hid (Below w.heap.size w v1) := HJ6.out.drew.trans (hb1.mono HJ6.out.size); clear hb1))
      go_wp2_with fail
      go_ret
      rw [HBO.out]
      exact ⟨rfl, HV1.out⟩
end Go.Proofs.Ythnjilbfkfekhaa
