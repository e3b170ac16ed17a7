/- The program's rules: the track goes on; routes. -/
import Derived.Test.YtagkgejdammflaaGreatV9
namespace Go.Proofs.YtagkgejdammflaaGreat
open Go.RowKit Fl Go.Sort
set_option maxRecDepth 100000

theorem endsTo_idx (ss : List (Int × Int × Int)) (n : Int) (e : Int × Int) : ∀ k, e ∈ endsTo ss n k → ∃ i : Nat, i < k ∧ e.1 = (i : Int)
  | 0, h => by simp [endsTo] at h
  | k + 1, h => by
    unfold endsTo at h
    rcases List.mem_append.1 h with h | h
    · obtain ⟨i, hi, he⟩ := endsTo_idx ss n e k h
      exact ⟨i, by omega, he⟩
    · refine ⟨k, by omega, ?_⟩
      unfold endsAt at h
      rcases List.mem_append.1 h with h | h
      · split at h
        · rw [List.mem_singleton] at h; rw [h]
        · simp at h
      · split at h
        · rw [List.mem_singleton] at h; rw [h]
        · simp at h
theorem secsAt_mem {L : Lay} {n s : Int} (h : s ∈ secsAt L n) : ∃ k : Nat, s = (k : Int) ∧ k < L.secs.length := by
  unfold secsAt at h
  obtain ⟨e, he, rfl⟩ := List.mem_map.1 h
  obtain ⟨i, hi, h1⟩ := endsTo_idx L.secs n e L.secs.length he
  exact ⟨i, h1, hi⟩
theorem joins_mem {L : Lay} {p : Int × Int × Int × Int} (h : joinsB L p = true) : p.2.1 ∈ secsAt L p.1 ∧ p.2.2.1 ∈ secsAt L p.1 ∧ p.2.2.2 ∈ secsAt L p.1 := by
  have e := of_decide_eq_true h
  rw [← e]
  unfold sortL
  refine ⟨List.mem_mergeSort.2 (by simp), List.mem_mergeSort.2 (by simp), List.mem_mergeSort.2 (by simp)⟩

def ptL (L : Lay) (n : Int) : Int × Int × Int × Int := L.points.getD (pointL L.points n).toNat (0, 0, 0, 0)
/-- Does the track go on at a node? -/
def goesB (L : Lay) (n : Int) : Bool :=
  if 0 ≤ pointL L.points n then leadsB L (ptL L n).2.1 n (ptL L n).2.2.1 && leadsB L (ptL L n).2.1 n (ptL L n).2.2.2
  else if (secsAt L n).length = 2 then leadsB L ((secsAt L n).getD 0 0) n ((secsAt L n).getD 1 0) else true
theorem goes_point {L : Lay} {n : Int} (h : 0 ≤ pointL L.points n) : goesB L n = (leadsB L (ptL L n).2.1 n (ptL L n).2.2.1 && leadsB L (ptL L n).2.1 n (ptL L n).2.2.2) := by unfold goesB; rw [if_pos h]
theorem goes_two {L : Lay} {n : Int} (h : ¬ 0 ≤ pointL L.points n) (h2 : (secsAt L n).length = 2) : goesB L n = leadsB L ((secsAt L n).getD 0 0) n ((secsAt L n).getD 1 0) := by unfold goesB; rw [if_neg h, if_pos h2]
theorem goes_none {L : Lay} {n : Int} (h : ¬ 0 ≤ pointL L.points n) (h2 : ¬ (secsAt L n).length = 2) : goesB L n = true := by unfold goesB; rw [if_neg h, if_neg h2]

set_option maxHeartbeats 4000000 in
theorem goesOn_any (w : World) (D : Nat) (v : Value) (L : Lay) (n : Nat) (h : IsTrk w D v L) (hD : D ≤ w.heap.size) (hL : Fits L) (hN : Noded L) (hp : Placed L) (hn : n < L.nodes.length) (hJ : ∀ p ∈ L.points, joinsB L p = true) :
    Calls Tryz.prog 45 #[v, .int .i64 n] w (RetL (goesB L n) w) := by
  have HK := Lib.hid h
  obtain ⟨t, A0, c0, A1, c1, A2, c2, A3, c3, A4, c4, vg, ps, rfl, hk⟩ := h.slices
  have f10 := hk.row.cell 10
  simp only [List.getElem?_toArray, List.getElem?_cons_zero, List.getElem?_cons_succ] at f10
  have HPA := Lib.hid (point_any w D vg L (n : Int) hk.gr hD hL)
  have HLD : Hid (∀ (i j : Nat), i < L.secs.length → j < L.secs.length → ∀ W, Below w.heap.size w W → Calls Tryz.prog 66 #[.pointer (some ⟨t, 0, none⟩), .int .i64 i, .int .i64 n, .int .i64 j] W (RetL (leadsB L i n j) W)) := fun i j hi hj W hW => leads_any W D _ L i n j (HK.out.keep hW hD) (by have := hW.size; omega) hN hp hi hj hn
  have HSA : Hid (∀ W, Below w.heap.size w W → Calls Tryz.prog 64 #[.pointer (some ⟨t, 0, none⟩), .int .i64 n] W (RetOwn W.heap.size (secsAt L n) W)) := fun W hW => sectionsAt_any W D _ L n (HK.out.keep hW hD) (by have := hW.size; omega) hL
  have HJJ := Lib.hid hJ
  obtain ⟨g, gS, gQ, gP, rfl, -⟩ := hk.gr
  by_cases hpt : 0 ≤ pointL L.points (n : Int)
  · rw [goes_point hpt]
    obtain ⟨i, hi, hil⟩ := pointL_lt hpt
    have hpi : ptL L (n : Int) = L.points[i] := by unfold ptL; rw [hi]; simp [hil]
    rw [hpi]
    obtain ⟨m1, m2, m3⟩ := joins_mem (hJ _ (List.getElem_mem hil))
    obtain ⟨k1, hk1, hl1⟩ := secsAt_mem m1
    obtain ⟨k2, hk2, hl2⟩ := secsAt_mem m2
    obtain ⟨k3, hk3, hl3⟩ := secsAt_mem m3
    have f3 := hk.row.cell 3
    simp only [List.getElem?_toArray, List.getElem?_cons_zero, List.getElem?_cons_succ] at f3
    obtain ⟨A', c', hv, hx⟩ := hk.data.q
    obtain ⟨b, o, hA, hbl, hc⟩ := hx (by omega)
    injection hv with e1 _ _
    subst e1
    subst hA
    obtain ⟨q0, q1, q2, q3⟩ := hc i hil
    have HL1 := Lib.hid (HLD.out k1 k2 hl1 hl2)
    have HL2 := Lib.hid (HLD.out k1 k3 hl1 hl3)
    rw [hi] at HPA
    have hiI : (i : Int) < (L.points.length : Int) := by omega
    have hi0 : (0 : Int) ≤ (i : Int) := by omega
    generalize L.points[i] = z at *
    obtain ⟨z0, z1, z2, z3⟩ := z
    simp only at q0 q1 q2 q3 hk1 hk2 hk3 ⊢
    subst hk1 hk2 hk3
    obtain ⟨b1, hb1⟩ : ∃ b, leadsB L (k1 : Int) (n : Int) (k2 : Int) = b := ⟨_, rfl⟩
    obtain ⟨b2, hb2⟩ : ∃ b, leadsB L (k1 : Int) (n : Int) (k3 : Int) = b := ⟨_, rfl⟩
    rw [hb1] at HL1 ⊢
    rw [hb2] at HL2 ⊢
    have HTD := Lib.hid (Nat.lt_of_lt_of_le hk.lt hD)
    have HBD := Lib.hid (Nat.lt_of_lt_of_le hbl hD)
    have HF3 := Lib.hid f3
    have HQ : Hid (w.cell? ⟨b, o + i * 4, none⟩ = some (.int .i64 z0) ∧ w.cell? ⟨b, o + i * 4 + 1, none⟩ = some (.int .i64 (k1 : Int)) ∧ w.cell? ⟨b, o + i * 4 + 2, none⟩ = some (.int .i64 (k2 : Int)) ∧ w.cell? ⟨b, o + i * 4 + 3, none⟩ = some (.int .i64 (k3 : Int))) := ⟨q0, q1, q2, q3⟩
    clear hk hx hc hD hL hN hp hJ HK HJJ HLD HSA hbl q0 q1 q2 q3 m1 m2 m3 hi hpt hpi hl1 hl2 hl3 hil f3 hb1 hb2
    generalize L.points.length = pl at *
    cases b1 with
    | false =>
      go_enter Tryz.func45, Tryz.ntmps45
      go_wp2_with fail
      refine HPA.out.mono ?_; rintro e w1 ⟨rfl, hb⟩
      have r3 := (hb.cell (p := ⟨t, 3, none⟩) HTD.out).trans HF3.out
      have q0 := (hb.cell (p := ⟨b, o + i * 4, none⟩) HBD.out).trans HQ.out.1
      have q1 := (hb.cell (p := ⟨b, o + i * 4 + 1, none⟩) HBD.out).trans HQ.out.2.1
      have q2 := (hb.cell (p := ⟨b, o + i * 4 + 2, none⟩) HBD.out).trans HQ.out.2.2.1
      have q3 := (hb.cell (p := ⟨b, o + i * 4 + 3, none⟩) HBD.out).trans HQ.out.2.2.2
      have HB1 := Lib.hid hb
      have HB2 : Hid (Below w.heap.size w (w1.alloc (.cells #[.int .i64 z0, .int .i64 (k1 : Int), .int .i64 (k2 : Int), .int .i64 (k3 : Int)] 41))) := hb.alloc hb.size _
      clear hb f10
      go_wp2_with fail
      refine (HL1.out _ HB2.out).mono ?_; rintro e w2 ⟨rfl, hb⟩
      have HB3 := Lib.hid (HB2.out.trans (hb.mono HB2.out.size))
      clear hb
      go_wp2_with fail
      go_ret
      exact ⟨rfl, HB3.out⟩
    | true =>
      go_enter Tryz.func45, Tryz.ntmps45
      go_wp2_with fail
      refine HPA.out.mono ?_; rintro e w1 ⟨rfl, hb⟩
      have r3 := (hb.cell (p := ⟨t, 3, none⟩) HTD.out).trans HF3.out
      have q0 := (hb.cell (p := ⟨b, o + i * 4, none⟩) HBD.out).trans HQ.out.1
      have q1 := (hb.cell (p := ⟨b, o + i * 4 + 1, none⟩) HBD.out).trans HQ.out.2.1
      have q2 := (hb.cell (p := ⟨b, o + i * 4 + 2, none⟩) HBD.out).trans HQ.out.2.2.1
      have q3 := (hb.cell (p := ⟨b, o + i * 4 + 3, none⟩) HBD.out).trans HQ.out.2.2.2
      have HB1 := Lib.hid hb
      have HB2 : Hid (Below w.heap.size w (w1.alloc (.cells #[.int .i64 z0, .int .i64 (k1 : Int), .int .i64 (k2 : Int), .int .i64 (k3 : Int)] 41))) := hb.alloc hb.size _
      have HR := Lib.hid (Row.new w1 41 #[.int .i64 z0, .int .i64 (k1 : Int), .int .i64 (k2 : Int), .int .i64 (k3 : Int)])
      clear hb f10
      go_wp2_with fail
      refine (HL1.out _ HB2.out).mono ?_; rintro e w2 ⟨rfl, hb⟩
      have HB3 := Lib.hid (HB2.out.trans (hb.mono HB2.out.size))
      have hr := Below.row hb HR.out HR.out.lt
      have g1 := hr.cell 1; have g3 := hr.cell 3
      simp only [List.getElem?_toArray, List.getElem?_cons_zero, List.getElem?_cons_succ] at g1 g3
      clear hb hr HR r3 q0 q1 q2 q3
      go_wp2_with fail
      refine (HL2.out _ HB3.out).mono ?_; rintro e w3 ⟨rfl, hb⟩
      have HB4 := Lib.hid (HB3.out.trans (hb.mono HB3.out.size))
      clear hb g1 g3
      go_wp2_with fail
      go_ret
      exact ⟨by simp, HB4.out⟩
  · have hsl : (secsAt L (n : Int)).length ≤ 200 := by unfold secsAt; rw [List.length_map]; exact endsL_le L hL n
    have hpt2 : ¬ 0 ≤ pointL L.points (n : Int) := hpt
    by_cases h2 : (secsAt L (n : Int)).length = 2
    · rw [goes_two hpt h2]
      obtain ⟨k1, hk1, hl1⟩ := secsAt_mem (s := (secsAt L (n : Int))[0]) (List.getElem_mem (by omega))
      obtain ⟨k2, hk2, hl2⟩ := secsAt_mem (s := (secsAt L (n : Int))[1]) (List.getElem_mem (by omega))
      have e0 : (secsAt L (n : Int)).getD 0 0 = (k1 : Int) := by rw [← hk1]; simp [List.getD, h2]
      have e1 : (secsAt L (n : Int)).getD 1 0 = (k2 : Int) := by rw [← hk2]; simp [List.getD, h2]
      rw [e0, e1]
      have HL1 := Lib.hid (HLD.out k1 k2 hl1 hl2)
      have HY : Hid (secsAt L (n : Int) = [(k1 : Int), (k2 : Int)]) := by
        show _ = _
        refine List.ext_getElem (by simp [h2]) (fun q a b => ?_)
        have hq : q = 0 ∨ q = 1 := by simp at b; omega
        rcases hq with rfl | rfl
        · exact hk1
        · exact hk2
      rw [HY.out] at HSA
      generalize leadsB L (k1 : Int) (n : Int) (k2 : Int) = bb at *
      generalize pointL L.points (n : Int) = pp at *
      clear hk hD hL hN hp hJ HK HJJ HLD hsl h2 hl1 hl2 hk1 hk2 e0 e1 HY hpt2
      go_enter Tryz.func45, Tryz.ntmps45
      go_wp2_with fail
      refine HPA.out.mono ?_; rintro e w1 ⟨rfl, hb⟩
      have HB1 := Lib.hid hb
      clear hb f10
      go_wp2_with fail
      refine (HSA.out w1 HB1.out).mono ?_; rintro e w2 ⟨v2, rfl, ho, hb⟩
      have HB2 := Lib.hid (HB1.out.trans (hb.mono HB1.out.size))
      obtain ⟨A5, c5, hv5⟩ := own_slice ho
      subst hv5
      simp only [List.length_cons, List.length_nil, Nat.zero_add] at ho ⊢
      have hrd := Rd.of_own ho
      obtain ⟨b5, o5, hA5, hbl5, u0⟩ := hrd.at (i := 0) (u := .int .i64 (k1 : Int)) (by simp [ivals])
      obtain ⟨b6, o6, hA6, hbl6, u1⟩ := hrd.at (i := 1) (u := .int .i64 (k2 : Int)) (by simp [ivals])
      subst hA5
      injection hA6 with hA6
      injection hA6 with z1 z2
      subst z1 z2
      clear hb ho hrd hbl6
      go_upto_region 7 with (fail)
      have s0 : w2.drew.cell? ⟨b5, o5 + 0, none⟩ = some (.int .i64 (k1 : Int)) ∧ w2.drew.cell? ⟨b5, o5 + 1, none⟩ = some (.int .i64 (k2 : Int)) := ⟨u0, u1⟩
      have HB3 : Hid (Below w.heap.size w w2.drew) := below_drewN HB2.out 1
      clear u0 u1
      simp only [Nat.add_zero] at s0
      go_region_held3 (fun w' => w'.cell? ⟨b5, o5, none⟩ = some (.int .i64 (k1 : Int)) ∧ w'.cell? ⟨b5, o5 + 1, none⟩ = some (.int .i64 (k2 : Int))) (first | exact s1 | exact s0) (first | (go_at_call 66; (with_reducible refine (HL1.out w2.drew HB3.out).mono ?_); rintro e w3 ⟨rfl, hb⟩; have s1 : w3.cell? ⟨b5, o5, none⟩ = some (.int .i64 (k1 : Int)) ∧ w3.cell? ⟨b5, o5 + 1, none⟩ = some (.int .i64 (k2 : Int)) := ⟨(hb.cell (p := ⟨b5, o5, none⟩) hbl5).trans s0.1, (hb.cell (p := ⟨b5, o5 + 1, none⟩) hbl5).trans s0.2⟩; have HB4 : Hid (Below w.heap.size w w3) := HB3.out.trans (hb.mono HB3.out.size); clear hb))
      go_wp2_with fail
      go_ret
      exact ⟨rfl, HB4.out⟩
    · rw [goes_none hpt h2]
      have h22 : (((secsAt L (n : Int)).length : Int) == 2) = false := by simp; omega
      generalize secsAt L (n : Int) = ys at *
      generalize pointL L.points (n : Int) = pp at *
      clear hk hD hL hN hp hJ HK HJJ HLD hsl hpt2
      go_enter Tryz.func45, Tryz.ntmps45
      go_wp2_with fail
      refine HPA.out.mono ?_; rintro e w1 ⟨rfl, hb⟩
      have HB1 := Lib.hid hb
      clear hb f10
      go_wp2_with fail
      refine (HSA.out w1 HB1.out).mono ?_; rintro e w2 ⟨v2, rfl, ho, hb⟩
      have HB2 := Lib.hid (HB1.out.trans (hb.mono HB1.out.size))
      obtain ⟨A5, c5, hv5⟩ := own_slice ho
      subst hv5
      clear hb ho
      go_wp2_with fail
      go_ret
      exact ⟨rfl, HB2.out⟩

def pathB (L : Lay) (r : List Int) : Bool := decide (r.length ≤ 12) && (pathL L r).isSome

set_option maxHeartbeats 4000000 in
theorem isShortPath_any (w : World) (D : Nat) (v : Value) (L : Lay) (i : Nat) (h : IsTrk w D v L) (hD : D ≤ w.heap.size) (hL : Fits L) (hi : i < L.routes.length) :
    Calls Tryz.prog 50 #[v, .int .i64 i] w (RetL (pathB L L.routes[i]) w) := by
  obtain ⟨t, A0, c0, A1, c1, A2, c2, A3, c3, A4, c4, vg, ps, rfl, hk⟩ := h.slices
  have f10 := hk.row.cell 10; have f4 := hk.row.cell 4
  simp only [List.getElem?_toArray, List.getElem?_cons_zero, List.getElem?_cons_succ] at f10 f4
  obtain ⟨b, o, Ar, cr, hA, hbl, hc, hrd⟩ := row_at hk.data.r i hi
  subst hA
  have hiI : (i : Int) < (L.routes.length : Int) := by omega
  have hi0 : (0 : Int) ≤ (i : Int) := by omega
  have HPB : Hid (∀ r, pathB L r = (decide (r.length ≤ 12) && (pathL L r).isSome)) := fun _ => rfl
  generalize L.routes[i] = r at *
  have hrd2 : Rd w w.heap.size (.slice Ar r.length cr) (ivals r) := hrd.mono hD (fun _ _ => rfl)
  by_cases hr : r.length ≤ 12
  · have HPT := Lib.hid (path_any w D vg L Ar cr r hk.gr hD hL hrd2 (by omega))
    have HPE : Hid (pathB L r = (pathL L r).isSome) := by show _ = _; rw [HPB.out, decide_eq_true hr]; rfl
    rw [HPE.out]
    obtain ⟨g, gS, gQ, gP, rfl, -⟩ := hk.gr
    have hr2 : (r.length : Int) ≤ 12 := by omega
    have hr3 : ¬ (12 : Int) < (r.length : Int) := by omega
    generalize pathL L r = op at *
    clear hk hL hD hrd hrd2 HPB HPE
    generalize r.length = rl at *
    go_enter Tryz.func50, Tryz.ntmps50
    go_wp2_with fail
    refine HPT.out.mono ?_; rintro e w1 ⟨v1, rfl, ho, hb⟩
    have HB1 := Lib.hid hb
    obtain ⟨A5, c5, hv5⟩ := own_slice ho
    subst hv5
    clear hb ho f10 f4 hc
    generalize op.isSome = os at *
    go_wp2_with fail
    go_ret
    exact ⟨rfl, HB1.out⟩
  · have HPE : Hid (pathB L r = false) := by show _ = _; rw [HPB.out, decide_eq_false hr]; rfl
    rw [HPE.out]
    have hr3 : (12 : Int) < (r.length : Int) := by omega
    clear hk hL hD hrd hrd2 HPB HPE
    generalize r.length = rl at *
    go_enter Tryz.func50, Tryz.ntmps50
    go_wp2_with fail
    go_ret
    exact ⟨rfl, Below.refl _ _⟩

end Go.Proofs.YtagkgejdammflaaGreat
