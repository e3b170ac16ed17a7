/- A layout that is asked, and its graph, in memory; the plain rules of the program. The program's rules on parts. The program's rule on a part's sections. The program's rule on a node's place. The program's rules on a node's place, and on a section's nodes. The program's rule on a section's nodes. -/
import Derived.Test.YtagkgejdammflaaGreatGMath
import Derived.Test.YtagkgejdammflaaGreatWA
import Derived.Deep.RegionHeld3
import Derived.Deep.QuietTactic
import Derived.BigQuiet
namespace Go.Proofs.YtagkgejdammflaaGreat
open Go.RowKit Fl
set_option maxRecDepth 100000

def inB (n lo hi : Int) : Bool := decide (lo ≤ n ∧ n ≤ hi)

set_option maxHeartbeats 1000000 in
theorem within_any (w : World) (n lo hi : Int) : Calls Tryz.prog 56 #[.int .i64 n, .int .i64 lo, .int .i64 hi] w fun e w' => e = .returned (.bool (inB n lo hi)) ∧ w = w' := by
  rw [show inB n lo hi = decide (lo ≤ n ∧ n ≤ hi) from rfl]
  have HF : Hid ((lo ≤ n → n ≤ hi → decide (lo ≤ n ∧ n ≤ hi) = true) ∧ (lo ≤ n → ¬ n ≤ hi → decide (lo ≤ n ∧ n ≤ hi) = false) ∧ (¬ lo ≤ n → decide (lo ≤ n ∧ n ≤ hi) = false)) :=
    ⟨fun a b => decide_eq_true ⟨a, b⟩, fun _ b => decide_eq_false (fun h => b h.2), fun a => decide_eq_false (fun h => a h.1)⟩
  generalize decide (lo ≤ n ∧ n ≤ hi) = r at *
  by_cases a : lo ≤ n
  · by_cases b : n ≤ hi
    · have HR := Lib.hid (HF.out.1 a b)
      clear HF
      go_enter Tryz.func56, Tryz.ntmps56
      go_wp2_with fail
      go_ret
      exact ⟨ret_bool HR.out.symm, rfl⟩
    · have HR := Lib.hid (HF.out.2.1 a b)
      clear HF
      go_enter Tryz.func56, Tryz.ntmps56
      go_wp2_with fail
      go_ret
      exact ⟨ret_bool HR.out.symm, rfl⟩
  · have HR := Lib.hid (HF.out.2.2 a)
    clear HF
    go_enter Tryz.func56, Tryz.ntmps56
    go_wp2_with fail
    go_ret
    exact ⟨ret_bool HR.out.symm, rfl⟩

set_option maxHeartbeats 1000000 in
theorem within64_any (w : World) (n lo hi : Int) : Calls Tryz.prog 60 #[.int .i64 n, .int .i64 lo, .int .i64 hi] w fun e w' => e = .returned (.bool (inB n lo hi)) ∧ w = w' := by
  rw [show inB n lo hi = decide (lo ≤ n ∧ n ≤ hi) from rfl]
  have HF : Hid ((lo ≤ n → n ≤ hi → decide (lo ≤ n ∧ n ≤ hi) = true) ∧ (lo ≤ n → ¬ n ≤ hi → decide (lo ≤ n ∧ n ≤ hi) = false) ∧ (¬ lo ≤ n → decide (lo ≤ n ∧ n ≤ hi) = false)) :=
    ⟨fun a b => decide_eq_true ⟨a, b⟩, fun _ b => decide_eq_false (fun h => b h.2), fun a => decide_eq_false (fun h => a h.1)⟩
  generalize decide (lo ≤ n ∧ n ≤ hi) = r at *
  by_cases a : lo ≤ n
  · by_cases b : n ≤ hi
    · have HR := Lib.hid (HF.out.1 a b)
      clear HF
      go_enter Tryz.func60, Tryz.ntmps60
      go_wp2_with fail
      go_ret
      exact ⟨ret_bool HR.out.symm, rfl⟩
    · have HR := Lib.hid (HF.out.2.1 a b)
      clear HF
      go_enter Tryz.func60, Tryz.ntmps60
      go_wp2_with fail
      go_ret
      exact ⟨ret_bool HR.out.symm, rfl⟩
  · have HR := Lib.hid (HF.out.2.2 a)
    clear HF
    go_enter Tryz.func60, Tryz.ntmps60
    go_wp2_with fail
    go_ret
    exact ⟨ret_bool HR.out.symm, rfl⟩

/-- A layout that is asked, and its graph. -/
structure Trk (w : World) (D t : Nat) (vN vS vP vQ vR vg : Value) (ps : List (Nat × Nat)) (L : Lay) : Prop where
  row : Row w t 68 #[vN, vS, vP, vQ, vR, .int .i64 L.speed, .int .i64 L.mute, .int .i64 L.wait, .int .i64 L.cancel, .int .i64 L.stay, vg]
  lt : t < D
  data : LayData w D vN vS vP vQ vR ps L
  gr : IsGr w D vg L
def IsTrk (w : World) (D : Nat) (v : Value) (L : Lay) : Prop := ∃ t vN vS vP vQ vR vg ps, v = .pointer (some ⟨t, 0, none⟩) ∧ Trk w D t vN vS vP vQ vR vg ps L

theorem IsTrk.slices {w : World} {D : Nat} {v : Value} {L : Lay} (h : IsTrk w D v L) : ∃ t A0 c0 A1 c1 A2 c2 A3 c3 A4 c4 vg ps, v = .pointer (some ⟨t, 0, none⟩) ∧ Trk w D t (.slice A0 L.nodes.length c0) (.slice A1 L.secs.length c1) (.slice A2 L.parts.length c2) (.slice A3 L.points.length c3) (.slice A4 L.routes.length c4) vg ps L := by
  obtain ⟨t, vN, vS, vP, vQ, vR, vg, ps, rfl, hk⟩ := h
  have hd := hk.data
  obtain ⟨A1, c1, hv1, -⟩ := id hd.s
  obtain ⟨A3, c3, hv3, -⟩ := id hd.q
  obtain ⟨vs, ⟨A2, c2, hv2, -, -⟩, hl2, -⟩ := id hd.p
  obtain ⟨A0, c0, hv0, -⟩ := id hd.n
  obtain ⟨vs4, ⟨A4, c4, hv4, -, -⟩, hl4, -⟩ := id hd.r
  have hn : (nvals ps).length = L.nodes.length := by rw [show (nvals ps).length = ps.length by simp [nvals]]; exact hd.f.1
  rw [hn] at hv0
  rw [hl2] at hv2
  rw [hl4] at hv4
  subst hv0 hv1 hv2 hv3 hv4
  exact ⟨t, A0, c0, A1, c1, A2, c2, A3, c3, A4, c4, vg, ps, rfl, hk⟩

set_option maxHeartbeats 1000000 in
theorem hasNodes_any (w : World) (D : Nat) (v : Value) (L : Lay) (i : Int) (h : IsTrk w D v L) : Calls Tryz.prog 34 #[v, .int .i64 i] w fun e w' => e = .returned (.bool (inB (L.nodes.length : Int) 2 40)) ∧ w = w' := by
  obtain ⟨t, A0, c0, A1, c1, A2, c2, A3, c3, A4, c4, vg, ps, rfl, hk⟩ := h.slices
  have f0 := hk.row.cell 0
  simp only [List.getElem?_toArray, List.getElem?_cons_zero] at f0
  have HW := Lib.hid (within_any w (L.nodes.length : Int) 2 40)
  clear hk h
  generalize L.nodes.length = n at *
  go_enter Tryz.func34, Tryz.ntmps34
  go_wp2_with fail
  refine HW.out.mono ?_; rintro e w' ⟨rfl, rfl⟩
  go_wp2_with fail
  go_ret
  exact ⟨rfl, rfl⟩

set_option maxHeartbeats 1000000 in
theorem hasSections_any (w : World) (D : Nat) (v : Value) (L : Lay) (i : Int) (h : IsTrk w D v L) : Calls Tryz.prog 36 #[v, .int .i64 i] w fun e w' => e = .returned (.bool (inB (L.secs.length : Int) 1 32)) ∧ w = w' := by
  obtain ⟨t, A0, c0, A1, c1, A2, c2, A3, c3, A4, c4, vg, ps, rfl, hk⟩ := h.slices
  have f0 := hk.row.cell 1
  simp only [List.getElem?_toArray, List.getElem?_cons_zero, List.getElem?_cons_succ] at f0
  have HW := Lib.hid (within_any w (L.secs.length : Int) 1 32)
  clear hk h
  generalize L.secs.length = n at *
  go_enter Tryz.func36, Tryz.ntmps36
  go_wp2_with fail
  refine HW.out.mono ?_; rintro e w' ⟨rfl, rfl⟩
  go_wp2_with fail
  go_ret
  exact ⟨rfl, rfl⟩

set_option maxHeartbeats 1000000 in
theorem hasParts_any (w : World) (D : Nat) (v : Value) (L : Lay) (i : Int) (h : IsTrk w D v L) : Calls Tryz.prog 46 #[v, .int .i64 i] w fun e w' => e = .returned (.bool (inB (L.parts.length : Int) 1 16)) ∧ w = w' := by
  obtain ⟨t, A0, c0, A1, c1, A2, c2, A3, c3, A4, c4, vg, ps, rfl, hk⟩ := h.slices
  have f0 := hk.row.cell 2
  simp only [List.getElem?_toArray, List.getElem?_cons_zero, List.getElem?_cons_succ] at f0
  have HW := Lib.hid (within_any w (L.parts.length : Int) 1 16)
  clear hk h
  generalize L.parts.length = n at *
  go_enter Tryz.func46, Tryz.ntmps46
  go_wp2_with fail
  refine HW.out.mono ?_; rintro e w' ⟨rfl, rfl⟩
  go_wp2_with fail
  go_ret
  exact ⟨rfl, rfl⟩

set_option maxHeartbeats 1000000 in
theorem hasSpeed_any (w : World) (D : Nat) (v : Value) (L : Lay) (i : Int) (h : IsTrk w D v L) : Calls Tryz.prog 38 #[v, .int .i64 i] w fun e w' => e = .returned (.bool (inB (L.speed : Int) 1 10000)) ∧ w = w' := by
  obtain ⟨t, A0, c0, A1, c1, A2, c2, A3, c3, A4, c4, vg, ps, rfl, hk⟩ := h.slices
  have f0 := hk.row.cell 5
  simp only [List.getElem?_toArray, List.getElem?_cons_zero, List.getElem?_cons_succ] at f0
  have HW := Lib.hid (within_any w (L.speed : Int) 1 10000)
  clear hk h
  generalize L.speed = n at *
  go_enter Tryz.func38, Tryz.ntmps38
  go_wp2_with fail
  refine HW.out.mono ?_; rintro e w' ⟨rfl, rfl⟩
  go_wp2_with fail
  go_ret
  exact ⟨rfl, rfl⟩

set_option maxHeartbeats 1000000 in
theorem hasFewPoints_any (w : World) (D : Nat) (v : Value) (L : Lay) (i : Int) (h : IsTrk w D v L) : Calls Tryz.prog 42 #[v, .int .i64 i] w fun e w' => e = .returned (.bool (decide ((L.points.length : Int) ≤ 8))) ∧ w = w' := by
  obtain ⟨t, A0, c0, A1, c1, A2, c2, A3, c3, A4, c4, vg, ps, rfl, hk⟩ := h.slices
  have f0 := hk.row.cell 3
  simp only [List.getElem?_toArray, List.getElem?_cons_zero, List.getElem?_cons_succ] at f0
  clear hk h
  generalize L.points.length = n at *
  go_enter Tryz.func42, Tryz.ntmps42
  go_wp2_with fail
  go_ret
  exact ⟨rfl, rfl⟩

set_option maxHeartbeats 1000000 in
theorem hasFewRoutes_any (w : World) (D : Nat) (v : Value) (L : Lay) (i : Int) (h : IsTrk w D v L) : Calls Tryz.prog 49 #[v, .int .i64 i] w fun e w' => e = .returned (.bool (decide ((L.routes.length : Int) ≤ 16))) ∧ w = w' := by
  obtain ⟨t, A0, c0, A1, c1, A2, c2, A3, c3, A4, c4, vg, ps, rfl, hk⟩ := h.slices
  have f0 := hk.row.cell 4
  simp only [List.getElem?_toArray, List.getElem?_cons_zero, List.getElem?_cons_succ] at f0
  clear hk h
  generalize L.routes.length = n at *
  go_enter Tryz.func49, Tryz.ntmps49
  go_wp2_with fail
  go_ret
  exact ⟨rfl, rfl⟩

def timesB (L : Lay) : Bool := inB L.mute 1 1000 && (inB L.wait 1 1000 && (inB L.cancel 1 1000 && inB L.stay 0 1000))

set_option maxHeartbeats 2000000 in
theorem hasTimes_any (w : World) (D : Nat) (v : Value) (L : Lay) (i : Int) (h : IsTrk w D v L) : Calls Tryz.prog 40 #[v, .int .i64 i] w fun e w' => e = .returned (.bool (timesB L)) ∧ w = w' := by
  obtain ⟨t, A0, c0, A1, c1, A2, c2, A3, c3, A4, c4, vg, ps, rfl, hk⟩ := h.slices
  have f6 := hk.row.cell 6; have f7 := hk.row.cell 7; have f8 := hk.row.cell 8; have f9 := hk.row.cell 9
  simp only [List.getElem?_toArray, List.getElem?_cons_zero, List.getElem?_cons_succ] at f6 f7 f8 f9
  have H1 := Lib.hid (within64_any w L.mute 1 1000); have H2 := Lib.hid (within64_any w L.wait 1 1000); have H3 := Lib.hid (within64_any w L.cancel 1 1000); have H4 := Lib.hid (within64_any w L.stay 0 1000)
  obtain ⟨b1, e1⟩ : ∃ b, inB L.mute 1 1000 = b := ⟨_, rfl⟩
  obtain ⟨b2, e2⟩ : ∃ b, inB L.wait 1 1000 = b := ⟨_, rfl⟩
  obtain ⟨b3, e3⟩ : ∃ b, inB L.cancel 1 1000 = b := ⟨_, rfl⟩
  obtain ⟨b4, e4⟩ : ∃ b, inB L.stay 0 1000 = b := ⟨_, rfl⟩
  rw [show timesB L = (b1 && (b2 && (b3 && b4))) by unfold timesB; rw [e1, e2, e3, e4]]
  rw [e1] at H1
  rw [e2] at H2
  rw [e3] at H3
  rw [e4] at H4
  clear hk h e1 e2 e3 e4
  cases b1 with
  | false =>
    go_enter Tryz.func40, Tryz.ntmps40
    go_wp2_with fail
    refine H1.out.mono ?_; rintro e w' ⟨rfl, rfl⟩
    go_wp2_with fail
    go_ret
    exact ⟨rfl, rfl⟩
  | true =>
    cases b2 with
    | false =>
      go_enter Tryz.func40, Tryz.ntmps40
      go_wp2_with fail
      refine H1.out.mono ?_; rintro e w' ⟨rfl, rfl⟩
      go_wp2_with fail
      refine H2.out.mono ?_; rintro e w' ⟨rfl, rfl⟩
      go_wp2_with fail
      go_ret
      exact ⟨rfl, rfl⟩
    | true =>
      cases b3 with
      | false =>
        go_enter Tryz.func40, Tryz.ntmps40
        go_wp2_with fail
        refine H1.out.mono ?_; rintro e w' ⟨rfl, rfl⟩
        go_wp2_with fail
        refine H2.out.mono ?_; rintro e w' ⟨rfl, rfl⟩
        go_wp2_with fail
        refine H3.out.mono ?_; rintro e w' ⟨rfl, rfl⟩
        go_wp2_with fail
        go_ret
        exact ⟨rfl, rfl⟩
      | true =>
        go_enter Tryz.func40, Tryz.ntmps40
        go_wp2_with fail
        refine H1.out.mono ?_; rintro e w' ⟨rfl, rfl⟩
        go_wp2_with fail
        refine H2.out.mono ?_; rintro e w' ⟨rfl, rfl⟩
        go_wp2_with fail
        refine H3.out.mono ?_; rintro e w' ⟨rfl, rfl⟩
        go_wp2_with fail
        refine H4.out.mono ?_; rintro e w' ⟨rfl, rfl⟩
        go_wp2_with fail
        go_ret
        exact ⟨rfl, rfl⟩

set_option maxHeartbeats 2000000 in
theorem takesATick_any (w : World) (D : Nat) (v : Value) (L : Lay) (i : Nat) (h : IsTrk w D v L) (hi : i < L.secs.length) : Calls Tryz.prog 39 #[v, .int .i64 i] w fun e w' => e = .returned (.bool (decide (L.speed ≤ L.secs[i].1))) ∧ ∃ n, w' = w.drewN n := by
  obtain ⟨t, A0, c0, A1, c1, A2, c2, A3, c3, A4, c4, vg, ps, rfl, hk⟩ := h.slices
  have f1 := hk.row.cell 1; have f5 := hk.row.cell 5
  simp only [List.getElem?_toArray, List.getElem?_cons_zero, List.getElem?_cons_succ] at f1 f5
  obtain ⟨A', c', hv, hx⟩ := hk.data.s
  obtain ⟨b, o, hA, hb, hc⟩ := hx (by omega)
  injection hv with e1 _ _
  subst e1
  subst hA
  have q0 := (hc i hi).1
  have hi2 : (i : Int) < (L.secs.length : Int) := by omega
  have hi3 : (0 : Int) ≤ (i : Int) := by omega
  clear hk h hx hc
  generalize L.secs[i] = z at *
  generalize L.secs.length = m at *
  generalize L.speed = sp at *
  go_enter Tryz.func39, Tryz.ntmps39
  go_upto_region 1 with (fail)
  go_quiet (fail)
  go_wp2_with fail
  go_ret
  exact ⟨rfl, _, rfl⟩


end Go.Proofs.YtagkgejdammflaaGreat

namespace Go.Proofs.YtagkgejdammflaaGreat
open Go.RowKit Fl
set_option maxRecDepth 100000

theorem row_at {w : World} {D : Nat} {A : Option Addr} {n c : Nat} {rows : List (List Int)} (h : RowsAt w D (.slice A n c) rows) (i : Nat) (hi : i < rows.length) :
    ∃ b o A' c', A = some ⟨b, o, none⟩ ∧ b < D ∧ w.cell? ⟨b, o + i, none⟩ = some (.slice A' rows[i].length c') ∧ Rd w D (.slice A' rows[i].length c') (ivals rows[i]) := by
  obtain ⟨vs, hr, hl, hx⟩ := h
  have hiv : i < vs.length := by omega
  obtain ⟨b, o, hA, hb, hc⟩ := hr.at (i := i) (u := vs[i]) (by simp [hiv])
  have h2 := hx i hiv hi
  obtain ⟨A', c', e, h3⟩ := id h2
  have e2 : vs[i] = .slice A' rows[i].length c' := by rw [e]; simp [ivals]
  rw [e2] at hc h2
  exact ⟨b, o, A', c', hA, hb, hc, h2⟩

/-- How often a section stands in the first 'i' lists. -/
def timesTo (rows : List (List Int)) (s : Int) (i : Nat) : Nat := ((rows.take i).map fun r => r.count s).sum
theorem timesTo_succ {rows : List (List Int)} {s : Int} {i : Nat} (hi : i < rows.length) : timesTo rows s (i + 1) = timesTo rows s i + rows[i].count s := by
  unfold timesTo
  rw [List.take_succ_eq_append_getElem hi, List.map_append, List.sum_append]
  simp only [List.map_cons, List.map_nil, List.sum_cons, List.sum_nil, Nat.add_zero]
theorem count_succ {r : List Int} {s : Int} {j : Nat} (hj : j < r.length) : (r.take (j + 1)).count s = (r.take j).count s + (if r[j] = s then 1 else 0) := by
  rw [List.take_succ_eq_append_getElem hj, List.count_append, List.count_singleton]
  simp
def inOneB (L : Lay) (s : Int) : Bool := decide (timesTo L.parts s L.parts.length = 1)

set_option maxHeartbeats 4000000 in
theorem isInOnePart_any (w : World) (D : Nat) (v : Value) (L : Lay) (s : Int) (h : IsTrk w D v L) (hl : L.parts.length ≤ 1000) (hr : ∀ r ∈ L.parts, r.length ≤ 1000) : Calls Tryz.prog 48 #[v, .int .i64 s] w fun e w' => e = .returned (.bool (inOneB L s)) ∧ w = w' := by
  obtain ⟨t, A0, c0, A1, c1, A2, c2, A3, c3, A4, c4, vg, ps, rfl, hk⟩ := h.slices
  have f2 := hk.row.cell 2
  simp only [List.getElem?_toArray, List.getElem?_cons_zero, List.getElem?_cons_succ] at f2
  have HP := Lib.hid hk.data.p
  have HR := Lib.hid hr
  clear hk h hr
  rw [show inOneB L s = decide (timesTo L.parts s L.parts.length = 1) from rfl]
  generalize L.parts = rows at *
  obtain ⟨m, hm⟩ : ∃ m, rows.length = m := ⟨_, rfl⟩
  rw [hm] at hl f2 HP ⊢
  have HM := Lib.hid hm
  obtain ⟨B, hB⟩ : ∃ B, decide (timesTo rows s m = 1) = B := ⟨_, rfl⟩
  rw [hB]
  have HB := Lib.hid hB
  clear hm hB
  go_enter Tryz.func48, Tryz.ntmps48
  go_wp2_with fail
  clear f2
  go_loopw [5, 16] (fun k t wr => ∃ i : Nat, i ≤ m ∧ t = .int .i64 i ∧ k = .int .i64 ((timesTo rows s i : Nat) : Int) ∧ Hid (timesTo rows s i ≤ i * 1000) ∧ wr = w) (fun _ t _ => m - (intOf t).toNat)
  case atStart => exact ⟨0, Nat.zero_le _, rfl, rfl, Nat.zero_le _, rfl⟩
  case round =>
    obtain ⟨i, hi, rfl, rfl, HT, hw⟩ := hrel
    have hw2 := hw.symm
    clear hw
    subst hw2
    by_cases hlt : i < m
    · have hir : i < rows.length := by have := HM.out; omega
      obtain ⟨b, o, A', c', hA, hb, q0, hrd⟩ := row_at HP.out i hir
      subst hA
      have HRD := Lib.hid hrd
      have HS := Lib.hid (timesTo_succ (s := s) hir)
      have hrl := HR.out rows[i] (List.getElem_mem _)
      obtain ⟨r, hre⟩ : ∃ r, rows[i] = r := ⟨_, rfl⟩
      rw [hre] at q0 HRD HS hrl
      obtain ⟨T, hT⟩ : ∃ T, timesTo rows s i = T := ⟨_, rfl⟩
      have hTb : T ≤ 1000000 := by have := HT.out; rw [hT] at this; have : i * 1000 ≤ 1000 * 1000 := Nat.mul_le_mul_right _ (by omega); omega
      have HTI : Hid (T ≤ i * 1000) := by have := HT.out; rw [hT] at this; exact this
      have HTE := Lib.hid hT
      rw [hT]
      rw [hT] at HS
      obtain ⟨n, hn⟩ : ∃ n, r.length = n := ⟨_, rfl⟩
      rw [hn] at q0 HRD hrl
      have HN := Lib.hid hn
      clear hrd hre hT hn HT
      go_wp2_with fail
      go_loopw [5, 22] (fun k t wr => ∃ j : Nat, j ≤ n ∧ t = .int .i64 j ∧ k = .int .i64 ((T + (r.take j).count s : Nat) : Int) ∧ wr = w) (fun _ t _ => n - (intOf t).toNat)
      case atStart => exact ⟨0, Nat.zero_le _, rfl, by simp, rfl⟩
      case round =>
        obtain ⟨j, hj, rfl, rfl, hw⟩ := hrel
        have hw2 := hw.symm
        clear hw
        subst hw2
        by_cases hjl : j < n
        · have hjr : j < r.length := by have := HN.out; omega
          have HRD2 : Hid (Rd w D (.slice A' n c') (ivals r)) := HRD.out
          obtain ⟨b2, o2, hA2, -, u0⟩ := HRD2.out.at (i := j) (u := .int .i64 r[j]) (by simp [ivals, hjr])
          subst hA2
          have HC := Lib.hid (count_succ (s := s) hjr)
          obtain ⟨K, hK⟩ : ∃ K, T + (r.take j).count s = K := ⟨_, rfl⟩
          have hKb : K ≤ 2000000 := by have : (r.take j).count s ≤ (r.take j).length := List.count_le_length; rw [List.length_take] at this; omega
          have HKE := Lib.hid hK
          rw [hK]
          clear hK
          generalize r[j] = z at *
          by_cases hz : z = s
          · have hz2 : (z == s) = true := by simpa using hz
            have HNX : Hid (T + (r.take (j + 1)).count s = K + 1) := by show _ = _; rw [HC.out, if_pos hz]; have := HKE.out; omega
            clear hz
            go_wp2_with fail
            go_roundw
            case rel => exact ⟨j + 1, by omega, by go_num, by rw [HNX.out]; go_num, trivial⟩
            case measure => simp [intOf]; omega
          · have hz2 : (z == s) = false := by simpa using hz
            have HNX : Hid (T + (r.take (j + 1)).count s = K) := by show _ = _; rw [HC.out, if_neg hz]; have := HKE.out; omega
            clear hz
            go_wp2_with fail
            go_roundw
            case rel => exact ⟨j + 1, by omega, by go_num, by rw [HNX.out], trivial⟩
            case measure => simp [intOf]; omega
        · have HNX : Hid (T + (r.take j).count s = timesTo rows s (i + 1) ∧ timesTo rows s (i + 1) ≤ (i + 1) * 1000) := by
            have e : r.take j = r := List.take_of_length_le (by have := HN.out; omega)
            have h1 : r.count s ≤ r.length := List.count_le_length
            have h2 := HS.out
            have h3 := HTI.out
            have h4 := HN.out
            rw [e]
            exact ⟨h2.symm, by rw [h2]; omega⟩
          rw [HNX.out.1]
          go_wp2_with fail
          go_roundw
          case rel => exact ⟨i + 1, by omega, by go_num, rfl, HNX.out.2, trivial⟩
          case measure => simp [intOf]; omega
    · have HIE : Hid (i = m) := by show _ = _; omega
      have HF : Hid ((((timesTo rows s i : Nat) : Int) == 1) = B) := by
        show _ = _
        rw [← HB.out, HIE.out, Bool.eq_iff_iff, beq_iff_eq, decide_eq_true_eq]
        omega
      go_wp2_with fail
      go_ret
      exact ⟨ret_bool HF.out, rfl⟩

end Go.Proofs.YtagkgejdammflaaGreat

namespace Go.Proofs.YtagkgejdammflaaGreat
open Go.RowKit Fl
set_option maxRecDepth 100000

def missB (L : Lay) (s : Int) : Bool := !inB s 0 ((L.secs.length : Int) - 1)

set_option maxHeartbeats 1000000 in
theorem isMissing_any (w : World) (D : Nat) (v : Value) (L : Lay) (s : Int) (h : IsTrk w D v L) (hl : L.secs.length ≤ 1000000) : Calls Tryz.prog 68 #[v, .int .i64 s] w fun e w' => e = .returned (.bool (missB L s)) ∧ w = w' := by
  obtain ⟨t, A0, c0, A1, c1, A2, c2, A3, c3, A4, c4, vg, ps, rfl, hk⟩ := h.slices
  have f1 := hk.row.cell 1
  simp only [List.getElem?_toArray, List.getElem?_cons_zero, List.getElem?_cons_succ] at f1
  have HW := Lib.hid (within_any w s 0 ((L.secs.length : Int) - 1))
  rw [show missB L s = !inB s 0 ((L.secs.length : Int) - 1) from rfl]
  clear hk h
  generalize L.secs.length = n at *
  have hw : IntKind.i64.wrap ((n : Int) - 1) = (n : Int) - 1 := IntWalk.i64_in _ (by omega)
  go_enter Tryz.func68, Tryz.ntmps68
  go_wp2_with fail
  refine HW.out.mono ?_; rintro e w' ⟨rfl, rfl⟩
  go_wp2_with fail
  go_ret
  exact ⟨rfl, rfl⟩

/-- The first place at which it holds. -/
def idxP (p : Int → Bool) (xs : List Int) : Int := match xs.findIdx? p with | some i => (i : Int) | none => -1
theorem idxP_at {p : Int → Bool} {xs : List Int} {i : Nat} (hi : i < xs.length) (h : p xs[i] = true) (hb : ∀ j (hj : j < xs.length), j < i → p xs[j] = false) : idxP p xs = (i : Int) := by
  unfold idxP
  have e : xs.findIdx? p = some i := by
    rw [List.findIdx?_eq_some_iff_getElem]
    exact ⟨hi, h, fun j hj => by simpa using hb j (by omega) hj⟩
  rw [e]
theorem idxP_none {p : Int → Bool} {xs : List Int} (hb : ∀ j (hj : j < xs.length), p xs[j] = false) : idxP p xs = -1 := by
  unfold idxP
  have e : xs.findIdx? p = none := by
    rw [List.findIdx?_eq_none_iff]
    intro x hx
    obtain ⟨j, hj, rfl⟩ := List.getElem_of_mem hx
    exact hb j hj
  rw [e]
theorem idxP_any (p : Int → Bool) (xs : List Int) : decide (0 ≤ idxP p xs) = xs.any p := by
  unfold idxP
  cases e : xs.findIdx? p with
  | none =>
    have h := List.findIdx?_eq_none_iff.1 e
    have e2 : xs.any p = false := by rw [List.any_eq_false]; intro x hx; simpa using h x hx
    rw [e2]; rfl
  | some i =>
    obtain ⟨hi, h1, _⟩ := List.findIdx?_eq_some_iff_getElem.1 e
    have e2 : xs.any p = true := by rw [List.any_eq_true]; exact ⟨xs[i], List.getElem_mem _, h1⟩
    rw [e2]
    simp

set_option maxHeartbeats 2000000 in
theorem indexFunc83 (w : World) (D : Nat) (v tv : Value) (L : Lay) (xs : List Int) (h : IsTrk w D tv L) (hl : L.secs.length ≤ 1000000) (hx : Rd w D v (ivals xs)) (hxl : xs.length ≤ 1000000) :
    Calls Tryz.prog 83 #[v, .func (.func 68) #[tv] #[]] w fun e w' => e = .returned (.int .i64 (idxP (missB L) xs)) ∧ w = w' := by
  have HT := Lib.hid h
  have HL := Lib.hid hl
  have HX := Lib.hid hx
  obtain ⟨A, c, rfl, -, -⟩ := hx
  rw [show (ivals xs).length = xs.length by simp [ivals]] at HX ⊢
  obtain ⟨m, hm⟩ : ∃ m, xs.length = m := ⟨_, rfl⟩
  rw [hm] at HX hxl ⊢
  have HM := Lib.hid hm
  obtain ⟨r, hr⟩ : ∃ r, idxP (missB L) xs = r := ⟨_, rfl⟩
  rw [hr]
  have HR := Lib.hid hr
  clear hm hr h hl
  go_enter Tryz.func83, Tryz.ntmps83
  go_wp2_with fail
  go_loopw [8] (fun k wr => ∃ i : Nat, i ≤ m ∧ k = .int .i64 i ∧ Hid (∀ j (hj : j < xs.length), j < i → missB L xs[j] = false) ∧ wr = w) (fun k _ => m - (intOf k).toNat)
  case atStart => exact ⟨0, Nat.zero_le _, rfl, fun j _ hj => absurd hj (by omega), rfl⟩
  case round =>
    obtain ⟨i, hi, rfl, HJ, hw⟩ := hrel
    have hw2 := hw.symm
    clear hw
    subst hw2
    by_cases hlt : i < m
    · have hix : i < xs.length := by have := HM.out; omega
      obtain ⟨b, o, hA, -, q0⟩ := HX.out.at (i := i) (u := .int .i64 xs[i]) (by simp [ivals, hix])
      subst hA
      have HQ1 : Hid (missB L xs[i] = true → r = (i : Int)) := fun e => by rw [← HR.out]; exact idxP_at hix e HJ.out
      have HQ2 : Hid (missB L xs[i] = false → ∀ j (hj : j < xs.length), j < i + 1 → missB L xs[j] = false) := fun e j hj hji => by
        rcases Nat.lt_or_ge j i with c | c
        · exact HJ.out j hj c
        · obtain rfl : j = i := by omega
          exact e
      generalize xs[i] = z at *
      go_wp2_with fail
      refine (isMissing_any w D tv L z HT.out HL.out).mono ?_; rintro e w' ⟨rfl, rfl⟩
      obtain ⟨bb, hbb⟩ : ∃ bb, missB L z = bb := ⟨_, rfl⟩
      rw [hbb] at HQ1 HQ2 ⊢
      clear q0
      cases bb with
      | true =>
        have HF := Lib.hid (HQ1.out rfl)
        go_wp2_with fail
        go_ret
        exact ⟨ret_int HF.out.symm, rfl⟩
      | false =>
        have HF := Lib.hid (HQ2.out rfl)
        go_wp2_with fail
        go_roundw
        case rel => exact ⟨i + 1, by omega, by go_num, HF, trivial⟩
        case measure => simp [intOf]; omega
    · have HF : Hid (r = -1) := by
        show _ = _
        rw [← HR.out]
        exact idxP_none fun j hj => HJ.out j hj (by have := HM.out; omega)
      go_wp2_with fail
      go_ret
      exact ⟨ret_int HF.out.symm, rfl⟩

set_option maxHeartbeats 1000000 in
theorem containsFunc67 (w : World) (D : Nat) (v tv : Value) (L : Lay) (xs : List Int) (h : IsTrk w D tv L) (hl : L.secs.length ≤ 1000000) (hx : Rd w D v (ivals xs)) (hxl : xs.length ≤ 1000000) :
    Calls Tryz.prog 67 #[v, .func (.func 68) #[tv] #[]] w fun e w' => e = .returned (.bool (xs.any (missB L))) ∧ w = w' := by
  have HC := Lib.hid (indexFunc83 w D v tv L xs h hl hx hxl)
  rw [← idxP_any]
  obtain ⟨A, c, rfl, -, -⟩ := hx
  clear h hl
  generalize idxP (missB L) xs = r at *
  go_enter Tryz.func67, Tryz.ntmps67
  go_wp2_with fail
  refine HC.out.mono ?_; rintro e w' ⟨rfl, rfl⟩
  go_wp2_with fail
  go_ret
  exact ⟨rfl, rfl⟩

/-- A part has sections, and those that there are. -/
def ofSecsB (L : Lay) (r : List Int) : Bool := decide (0 < r.length) && !r.any (missB L)

set_option maxHeartbeats 2000000 in
theorem isOfSections_any (w : World) (D : Nat) (v : Value) (L : Lay) (i : Nat) (h : IsTrk w D v L) (hi : i < L.parts.length) (hl : L.secs.length ≤ 1000000) (hr : ∀ r ∈ L.parts, r.length ≤ 1000) : Calls Tryz.prog 47 #[v, .int .i64 i] w fun e w' => e = .returned (.bool (ofSecsB L L.parts[i])) ∧ w = w' := by
  have HT := Lib.hid h
  obtain ⟨t, A0, c0, A1, c1, A2, c2, A3, c3, A4, c4, vg, ps, hv, hk⟩ := h.slices
  subst hv
  have f2 := hk.row.cell 2
  simp only [List.getElem?_toArray, List.getElem?_cons_zero, List.getElem?_cons_succ] at f2
  obtain ⟨b, o, A', c', hA, -, q0, hrd⟩ := row_at hk.data.p i hi
  subst hA
  have hrl := hr L.parts[i] (List.getElem_mem _)
  have HC := Lib.hid (containsFunc67 w D _ (.pointer (some ⟨t, 0, none⟩)) L L.parts[i] h hl hrd (by omega))
  have hi2 : (i : Int) < (L.parts.length : Int) := by omega
  have hi3 : (0 : Int) ≤ (i : Int) := by omega
  clear hk h hrd hr hl HT
  generalize L.parts[i] = r at *
  rw [show ofSecsB L r = (decide (0 < r.length) && !r.any (missB L)) from rfl]
  generalize r.any (missB L) = bb at *
  generalize r.length = n at *
  generalize L.parts.length = m at *
  by_cases hn : 0 < n
  · have hn2 : (0 : Int) < (n : Int) := by omega
    have hn3 : decide (0 < n) = true := decide_eq_true hn
    rw [hn3]
    go_enter Tryz.func47, Tryz.ntmps47
    go_wp2_with fail
    refine HC.out.mono ?_; rintro e w' ⟨rfl, rfl⟩
    go_wp2_with fail
    go_ret
    exact ⟨by simp, rfl⟩
  · have hn2 : ¬ (0 : Int) < (n : Int) := by omega
    have hn3 : decide (0 < n) = false := decide_eq_false hn
    rw [hn3]
    go_enter Tryz.func47, Tryz.ntmps47
    go_wp2_with fail
    go_ret
    exact ⟨by simp, rfl⟩

end Go.Proofs.YtagkgejdammflaaGreat

namespace Go.Proofs.YtagkgejdammflaaGreat
open Go.RowKit Fl
set_option maxRecDepth 100000

def idxZ (z : Int × Int) (zs : List (Int × Int)) : Int := match zs.findIdx? (fun p => decide (p = z)) with | some i => (i : Int) | none => -1
theorem idxZ_at {z : Int × Int} {zs : List (Int × Int)} {i : Nat} (hi : i < zs.length) (h : zs[i] = z) (hb : ∀ j (hj : j < zs.length), j < i → zs[j] ≠ z) : idxZ z zs = (i : Int) := by
  unfold idxZ
  have e : zs.findIdx? (fun p => decide (p = z)) = some i := by
    rw [List.findIdx?_eq_some_iff_getElem]
    exact ⟨hi, by simpa using h, fun j hj => by simpa using hb j (by omega) hj⟩
  rw [e]
theorem idxZ_none {z : Int × Int} {zs : List (Int × Int)} (hb : ∀ j (hj : j < zs.length), zs[j] ≠ z) : idxZ z zs = -1 := by
  unfold idxZ
  have e : zs.findIdx? (fun p => decide (p = z)) = none := by
    rw [List.findIdx?_eq_none_iff]
    intro x hx
    obtain ⟨j, hj, rfl⟩ := List.getElem_of_mem hx
    simpa using hb j hj
  rw [e]
theorem idxZ_any (z : Int × Int) (zs : List (Int × Int)) : decide (0 ≤ idxZ z zs) = decide (z ∈ zs) := by
  unfold idxZ
  cases e : zs.findIdx? (fun p => decide (p = z)) with
  | none =>
    have h := List.findIdx?_eq_none_iff.1 e
    have e2 : decide (z ∈ zs) = false := decide_eq_false fun hm => by have := h z hm; simp at this
    rw [e2]; rfl
  | some i =>
    obtain ⟨hi, h1, _⟩ := List.findIdx?_eq_some_iff_getElem.1 e
    have h2 : zs[i] = z := by simpa using h1
    have e2 : decide (z ∈ zs) = true := decide_eq_true (by rw [← h2]; exact List.getElem_mem _)
    rw [e2]
    simp

set_option maxHeartbeats 2000000 in
theorem index74 (w : World) (D : Nat) (v : Value) (ps : List (Nat × Nat)) (zs : List (Int × Int)) (x y : Nat) (a b : Int) (h : Rd w D v (nvals ps)) (hf : FlN ps zs) (hx : Fl 0 x a) (hy : Fl 0 y b) (hl : zs.length ≤ 1000000) :
    Calls Tryz.prog 74 #[v, .complex .f64 x y] w fun e w' => e = .returned (.int .i64 (idxZ (a, b) zs)) ∧ w = w' := by
  have HX := Lib.hid h
  have HF := Lib.hid hf
  have HA := Lib.hid hx; have HB := Lib.hid hy
  obtain ⟨A, c, rfl, -, -⟩ := h
  rw [show (nvals ps).length = zs.length by rw [show (nvals ps).length = ps.length by simp [nvals]]; exact hf.1] at HX ⊢
  obtain ⟨m, hm⟩ : ∃ m, zs.length = m := ⟨_, rfl⟩
  rw [hm] at HX hl ⊢
  have HM := Lib.hid hm
  obtain ⟨r, hr⟩ : ∃ r, idxZ (a, b) zs = r := ⟨_, rfl⟩
  rw [hr]
  have HR := Lib.hid hr
  clear hm hr hf hx hy
  go_enter Tryz.func74, Tryz.ntmps74
  go_wp2_with fail
  go_loopw [8] (fun k wr => ∃ i : Nat, i ≤ m ∧ k = .int .i64 i ∧ Hid (∀ j (hj : j < zs.length), j < i → zs[j] ≠ (a, b)) ∧ wr = w) (fun k _ => m - (intOf k).toNat)
  case atStart => exact ⟨0, Nat.zero_le _, rfl, fun j _ hj => absurd hj (by omega), rfl⟩
  case round =>
    obtain ⟨i, hi, rfl, HJ, hw⟩ := hrel
    have hw2 := hw.symm
    clear hw
    subst hw2
    by_cases hlt : i < m
    · have hiz : i < zs.length := by have := HM.out; omega
      have hip : i < ps.length := by have := HF.out.1; omega
      obtain ⟨fb, fo, hA, -, q0⟩ := HX.out.at (i := i) (u := .complex .f64 ps[i].1 ps[i].2) (by simp [nvals, hip])
      subst hA
      obtain ⟨g1, g2⟩ := HF.out.2 i hip hiz
      have e1 := eq_fact HA.out g1
      have e2 := eq_fact HB.out g2
      have HQ1 : Hid (zs[i] = (a, b) → r = (i : Int)) := fun e => by rw [← HR.out]; exact idxZ_at hiz e HJ.out
      have HQ2 : Hid (zs[i] ≠ (a, b) → ∀ j (hj : j < zs.length), j < i + 1 → zs[j] ≠ (a, b)) := fun e j hj hji => by
        rcases Nat.lt_or_ge j i with c | c
        · exact HJ.out j hj c
        · obtain rfl : j = i := by omega
          exact e
      generalize ps[i] = p at *
      generalize zs[i] = z at *
      obtain ⟨p1, p2⟩ := p
      obtain ⟨z1, z2⟩ := z
      simp only at q0 e1 e2
      clear g1 g2
      by_cases c1 : a = z1
      · rw [decide_eq_true c1] at e1
        by_cases c2 : b = z2
        · rw [decide_eq_true c2] at e2
          have HFF := Lib.hid (HQ1.out (by rw [c1, c2]))
          clear c1 c2
          go_wp2_with fail
          go_ret
          exact ⟨ret_int HFF.out.symm, rfl⟩
        · rw [decide_eq_false c2] at e2
          have HFF := Lib.hid (HQ2.out (fun h => c2 (by injection h with _ h; exact h.symm)))
          clear c1 c2
          go_wp2_with fail
          go_roundw
          case rel => exact ⟨i + 1, by omega, by go_num, HFF, trivial⟩
          case measure => simp [intOf]; omega
      · rw [decide_eq_false c1] at e1
        have HFF := Lib.hid (HQ2.out (fun h => c1 (by injection h with h _; exact h.symm)))
        clear c1
        go_wp2_with fail
        go_roundw
        case rel => exact ⟨i + 1, by omega, by go_num, HFF, trivial⟩
        case measure => simp [intOf]; omega
    · have HFF : Hid (r = -1) := by
        show _ = _
        rw [← HR.out]
        exact idxZ_none fun j hj => HJ.out j hj (by have := HM.out; omega)
      go_wp2_with fail
      go_ret
      exact ⟨ret_int HFF.out.symm, rfl⟩

set_option maxHeartbeats 1000000 in
theorem contains58 (w : World) (D : Nat) (v : Value) (ps : List (Nat × Nat)) (zs : List (Int × Int)) (x y : Nat) (a b : Int) (h : Rd w D v (nvals ps)) (hf : FlN ps zs) (hx : Fl 0 x a) (hy : Fl 0 y b) (hl : zs.length ≤ 1000000) :
    Calls Tryz.prog 58 #[v, .complex .f64 x y] w fun e w' => e = .returned (.bool (decide ((a, b) ∈ zs))) ∧ w = w' := by
  have HC := Lib.hid (index74 w D v ps zs x y a b h hf hx hy hl)
  rw [← idxZ_any]
  obtain ⟨A, c, rfl, -, -⟩ := h
  clear hf hx hy hl
  generalize idxZ (a, b) zs = r at *
  go_enter Tryz.func58, Tryz.ntmps58
  go_wp2_with fail
  refine HC.out.mono ?_; rintro e w' ⟨rfl, rfl⟩
  go_wp2_with fail
  go_ret
  exact ⟨rfl, rfl⟩

end Go.Proofs.YtagkgejdammflaaGreat

namespace Go.Proofs.YtagkgejdammflaaGreat
open Go.RowKit Fl
set_option maxRecDepth 100000

def placeB (z : Int × Int) : Bool := decide (-1000000 ≤ z.1 ∧ z.1 ≤ 1000000) && decide (-1000000 ≤ z.2 ∧ z.2 ≤ 1000000)
def ownPlaceB (L : Lay) (i : Nat) (hi : i < L.nodes.length) : Bool := placeB L.nodes[i] && !decide (L.nodes[i] ∈ L.nodes.take i)
theorem FlN.take {ps : List (Nat × Nat)} {zs : List (Int × Int)} (h : FlN ps zs) (i : Nat) : FlN (ps.take i) (zs.take i) := by
  refine ⟨by rw [List.length_take, List.length_take, h.1], fun j h1 h2 => ?_⟩
  rw [List.length_take] at h1 h2
  simpa using h.2 j (by omega) (by omega)
theorem nvals_take (ps : List (Nat × Nat)) (i : Nat) : nvals (ps.take i) = (nvals ps).take i := by simp [nvals, List.map_take]

set_option maxHeartbeats 2000000 in
theorem isOwnPlace_any (w : World) (D : Nat) (v : Value) (L : Lay) (i : Nat) (h : IsTrk w D v L) (hi : i < L.nodes.length) (hl : L.nodes.length ≤ 1000000) : Calls Tryz.prog 35 #[v, .int .i64 i] w fun e w' => e = .returned (.bool (ownPlaceB L i hi)) ∧ w = w' := by
  obtain ⟨t, A0, c0, A1, c1, A2, c2, A3, c3, A4, c4, vg, ps, rfl, hk⟩ := h.slices
  have f0 := hk.row.cell 0
  simp only [List.getElem?_toArray, List.getElem?_cons_zero] at f0
  have hd := hk.data
  have hps : ps.length = L.nodes.length := hd.f.1
  have hip : i < ps.length := by omega
  obtain ⟨fb, fo, hA, -, q0⟩ := hd.n.at (i := i) (u := .complex .f64 ps[i].1 ps[i].2) (by simp [nvals, hip])
  subst hA
  obtain ⟨g1, g2⟩ := hd.f.2 i hip hi
  have hcap : L.nodes.length ≤ c0 := by
    obtain ⟨A', c', e, ⟨_, hc⟩, _⟩ := hd.n
    injection e with _ _ e
    rw [e]
    rw [show (nvals ps).length = ps.length by simp [nvals]] at hc
    omega
  have hrt : Rd w D (.slice (some ⟨fb, fo, none⟩) i c0) (nvals (ps.take i)) := by
    rw [nvals_take]
    exact hd.n.take i (by simp [nvals]; omega)
  have HC := Lib.hid (contains58 w D _ (ps.take i) (L.nodes.take i) ps[i].1 ps[i].2 L.nodes[i].1 L.nodes[i].2 hrt (hd.f.take i) g1 g2 (by rw [List.length_take]; omega))
  have HP := Lib.hid (Place_any ps[i].1 ps[i].2 w)
  rw [metB_fl g1, metB_fl g2] at HP
  rw [show ownPlaceB L i hi = (placeB L.nodes[i] && !decide (L.nodes[i] ∈ L.nodes.take i)) from rfl]
  have HPB : Hid ((decide (-1000000 ≤ L.nodes[i].1 ∧ L.nodes[i].1 ≤ 1000000) && decide (-1000000 ≤ L.nodes[i].2 ∧ L.nodes[i].2 ≤ 1000000)) = placeB L.nodes[i]) := rfl
  rw [HPB.out] at HP
  obtain ⟨b1, hb1⟩ : ∃ b, placeB L.nodes[i] = b := ⟨_, rfl⟩
  obtain ⟨b2, hb2⟩ : ∃ b, decide (L.nodes[i] ∈ L.nodes.take i) = b := ⟨_, rfl⟩
  rw [hb1] at HP ⊢
  rw [show decide ((L.nodes[i].1, L.nodes[i].2) ∈ L.nodes.take i) = b2 from hb2] at HC
  rw [hb2]
  have hi2 : (i : Int) < (L.nodes.length : Int) := by omega
  have hi3 : (0 : Int) ≤ (i : Int) := by omega
  have hic : i ≤ c0 := by omega
  have hicI : (i : Int) ≤ (c0 : Int) := by omega
  clear hk h hd g1 g2 hrt hb1 hb2 HPB hps
  generalize ps[i] = p at *
  obtain ⟨p1, p2⟩ := p
  simp only at q0 HC HP
  generalize L.nodes.length = m at *
  cases b1 with
  | false =>
    go_enter Tryz.func35, Tryz.ntmps35
    go_wp2_with fail
    refine HP.out.mono ?_; rintro e w' ⟨rfl, rfl⟩
    go_wp2_with fail
    go_ret
    exact ⟨rfl, rfl⟩
  | true =>
    go_enter Tryz.func35, Tryz.ntmps35
    go_wp2_with fail
    refine HP.out.mono ?_; rintro e w' ⟨rfl, rfl⟩
    go_wp2_with fail
    refine HC.out.mono ?_; rintro e w' ⟨rfl, rfl⟩
    go_wp2_with fail
    go_ret
    exact ⟨by simp, rfl⟩

end Go.Proofs.YtagkgejdammflaaGreat

namespace Go.Proofs.YtagkgejdammflaaGreat
open Go.RowKit Fl
set_option maxRecDepth 100000

theorem below_drewN {B : Nat} {a w : World} (h : Below B a w) (n : Nat) : Below B a (w.drewN n) := ⟨h.os, h.tape, h.output, h.size, h.block⟩

def nodeAtL (L : Lay) (n : Int) : Int × Int := L.nodes.getD n.toNat (0, 0)
def fitsSB (L : Lay) (s : Int × Int × Int) : Bool := inB s.2.1 0 ((L.nodes.length : Int) - 1) && (inB s.2.2 0 ((L.nodes.length : Int) - 1) && fitsB ((nodeAtL L s.2.2).1 - (nodeAtL L s.2.1).1) ((nodeAtL L s.2.2).2 - (nodeAtL L s.2.1).2) s.1)
/-- All nodes are places. -/
def Placed (L : Lay) : Prop := ∀ p ∈ L.nodes, p.1.natAbs ≤ 1000000 ∧ p.2.natAbs ≤ 1000000

theorem inB_nat {n : Int} {m : Nat} (h : inB n 0 ((m : Int) - 1) = true) : ∃ k : Nat, n = (k : Int) ∧ k < m := by
  unfold inB at h
  have h2 := of_decide_eq_true h
  exact ⟨n.toNat, by omega, by omega⟩

theorem nodeAtL_nat (L : Lay) (k : Nat) (h : k < L.nodes.length) : nodeAtL L (k : Int) = L.nodes[k] := by simp [nodeAtL, h]

/-- Where a node lies. -/
theorem nd_at {w : World} {D : Nat} {A0 : Option Addr} {c0 : Nat} {ps : List (Nat × Nat)} {L : Lay} (hn : Rd w D (.slice A0 L.nodes.length c0) (nvals ps)) (hf : FlN ps L.nodes) (k : Nat) (hk : k < L.nodes.length) :
    ∃ b o x y, A0 = some ⟨b, o, none⟩ ∧ b < D ∧ w.cell? ⟨b, o + k, none⟩ = some (.complex .f64 x y) ∧ Fl 0 x L.nodes[k].1 ∧ Fl 0 y L.nodes[k].2 := by
  have hps : ps.length = L.nodes.length := hf.1
  have hkp : k < ps.length := by omega
  obtain ⟨b, o, hA, hb, hc⟩ := hn.at (i := k) (u := .complex .f64 ps[k].1 ps[k].2) (by simp [nvals, hkp])
  obtain ⟨h1, h2⟩ := hf.2 k hkp hk
  exact ⟨b, o, ps[k].1, ps[k].2, hA, hb, hc, h1, h2⟩

set_option maxHeartbeats 4000000 in
theorem fitsItsNodes_any (w : World) (D : Nat) (v : Value) (L : Lay) (i : Nat) (h : IsTrk w D v L) (hi : i < L.secs.length) (hl : L.nodes.length ≤ 1000000) (hp : Placed L) (hD : D ≤ w.heap.size) : Calls Tryz.prog 37 #[v, .int .i64 i] w fun e w' => e = .returned (.bool (fitsSB L L.secs[i])) ∧ Below w.heap.size w w' := by
  obtain ⟨t, A0, c0, A1, c1, A2, c2, A3, c3, A4, c4, vg, ps, rfl, hk⟩ := h.slices
  have f0 := hk.row.cell 0; have f1 := hk.row.cell 1
  simp only [List.getElem?_toArray, List.getElem?_cons_zero, List.getElem?_cons_succ] at f0 f1
  have hd := hk.data
  obtain ⟨A', c', hv, hx⟩ := hd.s
  obtain ⟨sb, so, hA, hsb, hc⟩ := hx (by omega)
  injection hv with e1 _ _
  subst e1
  subst hA
  obtain ⟨q0, q1, q2⟩ := hc i hi
  have hi2 : (i : Int) < (L.secs.length : Int) := by omega
  have hi3 : (0 : Int) ≤ (i : Int) := by omega
  generalize L.secs[i] = z at *
  obtain ⟨ln, a, b⟩ := z
  simp only at q0 q1 q2
  have HN := Lib.hid hd.n; have HF := Lib.hid hd.f
  have htl : t < w.heap.size := Nat.lt_of_lt_of_le hk.lt hD
  have HB : Hid (Below w.heap.size w (w.alloc (.cells #[.int .i64 ln, .int .i64 a, .int .i64 b] 39))) := (Below.refl _ _).alloc (Nat.le_refl _) _
  have HR := Lib.hid (Row.new w 39 #[.int .i64 ln, .int .i64 a, .int .i64 b])
  have HC0 := Lib.hid f0
  have HTL := Lib.hid htl
  have HDD := Lib.hid hD
  have HPL := Lib.hid hp
  have HWA : Hid (∀ W : World, Calls Tryz.prog 56 #[.int .i64 a, .int .i64 0, .int .i64 ((L.nodes.length : Int) - 1)] W fun e w' => e = .returned (.bool (inB a 0 ((L.nodes.length : Int) - 1))) ∧ w' = W) := fun W => (within_any W _ _ _).mono fun _ _ ⟨he, hw⟩ => ⟨he, hw.symm⟩
  have HWB : Hid (∀ W : World, Calls Tryz.prog 56 #[.int .i64 b, .int .i64 0, .int .i64 ((L.nodes.length : Int) - 1)] W fun e w' => e = .returned (.bool (inB b 0 ((L.nodes.length : Int) - 1))) ∧ w' = W) := fun W => (within_any W _ _ _).mono fun _ _ ⟨he, hw⟩ => ⟨he, hw.symm⟩
  have HE : Hid (fitsSB L (ln, a, b) = (inB a 0 ((L.nodes.length : Int) - 1) && (inB b 0 ((L.nodes.length : Int) - 1) && fitsB ((nodeAtL L b).1 - (nodeAtL L a).1) ((nodeAtL L b).2 - (nodeAtL L a).2) ln))) := rfl
  rw [HE.out]
  have hwr : IntKind.i64.wrap ((L.nodes.length : Int) - 1) = (L.nodes.length : Int) - 1 := IntWalk.i64_in _ (by omega)
  obtain ⟨bA, hbA⟩ : ∃ x, inB a 0 ((L.nodes.length : Int) - 1) = x := ⟨_, rfl⟩
  obtain ⟨bB, hbB⟩ : ∃ x, inB b 0 ((L.nodes.length : Int) - 1) = x := ⟨_, rfl⟩
  have HBA := Lib.hid hbA; have HBB := Lib.hid hbB
  rw [hbA, hbB]
  simp only [hbA] at HWA
  simp only [hbB] at HWB
  clear hk h hd hx hc htl HE hsb hD hp hbA hbB
  cases bA with
  | false =>
    generalize L.nodes.length = m at *
    go_enter Tryz.func37, Tryz.ntmps37
    go_upto_region 2 with (fail)
    have g0 := (HB.out.cell (p := ⟨t, 0, none⟩) HTL.out).trans HC0.out
    have g1 := HR.out.cell 0; have g2 := HR.out.cell 1; have g3 := HR.out.cell 2
    simp only [List.getElem?_toArray, List.getElem?_cons_zero, List.getElem?_cons_succ] at g1 g2 g3
    generalize w.alloc (.cells #[.int .i64 ln, .int .i64 a, .int .i64 b] 39) = W at *
    clear f0 f1 q0 q1 q2 HR
    go_upto_region 3 with (fail)
    go_quiet (first | (go_at_call 56; (with_reducible exact Calls.quiet_of_same (HWA.out _))))
    go_wp2_with fail
    go_ret
    exact ⟨rfl, below_drewN HB.out _⟩
  | true =>
    cases bB with
    | false =>
      generalize L.nodes.length = m at *
      go_enter Tryz.func37, Tryz.ntmps37
      go_upto_region 2 with (fail)
      have g0 := (HB.out.cell (p := ⟨t, 0, none⟩) HTL.out).trans HC0.out
      have g1 := HR.out.cell 0; have g2 := HR.out.cell 1; have g3 := HR.out.cell 2
      simp only [List.getElem?_toArray, List.getElem?_cons_zero, List.getElem?_cons_succ] at g1 g2 g3
      generalize w.alloc (.cells #[.int .i64 ln, .int .i64 a, .int .i64 b] 39) = W at *
      clear f0 f1 q0 q1 q2 HR
      go_upto_region 3 with (fail)
      go_quiet (first | (go_at_call 56; (with_reducible exact Calls.quiet_of_same (HWA.out _))) | (go_at_call 56; (with_reducible exact Calls.quiet_of_same (HWB.out _))))
      go_wp2_with fail
      go_ret
      exact ⟨rfl, below_drewN HB.out _⟩
    | true =>
      obtain ⟨ka, rfl, hka⟩ := inB_nat HBA.out
      obtain ⟨kb, rfl, hkb⟩ := inB_nat HBB.out
      obtain ⟨nb, no, xa, ya, hA0, hnb, ca, fa1, fa2⟩ := nd_at HN.out HF.out ka hka
      obtain ⟨nb', no', xb, yb, hA0', hnb', cb, fb1, fb2⟩ := nd_at HN.out HF.out kb hkb
      subst hA0
      injection hA0' with hA0'
      injection hA0' with z1 z2
      subst z1 z2
      have hpa := HPL.out _ (List.getElem_mem hka)
      have hpb := HPL.out _ (List.getElem_mem hkb)
      rw [nodeAtL_nat L ka hka, nodeAtL_nat L kb hkb]
      have HFT : Hid (∀ W : World, Calls Tryz.prog 59 #[.complex .f64 xa ya, .complex .f64 xb yb, .int .i64 ln] W fun e w' => e = .returned (.bool (fitsB (L.nodes[kb].1 - L.nodes[ka].1) (L.nodes[kb].2 - L.nodes[ka].2) ln)) ∧ w' = W) := fun W => (fits_any xa ya xb yb _ _ _ _ ln W fa1 fa2 fb1 fb2 (by omega) (by omega)).mono fun _ _ ⟨he, hw⟩ => ⟨he, hw.symm⟩
      have HCA := Lib.hid ((HB.out.cell (p := ⟨nb, no + ka, none⟩) (by have := HDD.out; show nb < _; omega)).trans ca)
      have HCB := Lib.hid ((HB.out.cell (p := ⟨nb, no + kb, none⟩) (by have := HDD.out; show nb < _; omega)).trans cb)
      generalize fitsB (L.nodes[kb].1 - L.nodes[ka].1) (L.nodes[kb].2 - L.nodes[ka].2) ln = bf at *
      clear fa1 fa2 fb1 fb2 hpa hpb ca cb HF HN HPL HBA HBB hnb hnb'
      have hka0 : (0 : Int) ≤ (ka : Int) := by omega
      have hkb0 : (0 : Int) ≤ (kb : Int) := by omega
      generalize L.nodes.length = m at *
      go_enter Tryz.func37, Tryz.ntmps37
      go_upto_region 2 with (fail)
      have g0 := (HB.out.cell (p := ⟨t, 0, none⟩) HTL.out).trans HC0.out
      have g1 := HR.out.cell 0; have g2 := HR.out.cell 1; have g3 := HR.out.cell 2
      simp only [List.getElem?_toArray, List.getElem?_cons_zero, List.getElem?_cons_succ] at g1 g2 g3
      generalize w.alloc (.cells #[.int .i64 ln, .int .i64 (ka : Int), .int .i64 (kb : Int)] 39) = W at *
      clear f0 f1 q0 q1 q2 HR
      go_upto_region 3 with (fail)
      have g4 := HCA.out; have g5 := HCB.out
      go_quiet (first | (go_at_call 56; (with_reducible exact Calls.quiet_of_same (HWA.out _))) | (go_at_call 56; (with_reducible exact Calls.quiet_of_same (HWB.out _))) | (go_at_call 59; (with_reducible exact Calls.quiet_of_same (HFT.out _))))
      go_wp2_with fail
      go_ret
      exact ⟨by simp, below_drewN HB.out _⟩

end Go.Proofs.YtagkgejdammflaaGreat
