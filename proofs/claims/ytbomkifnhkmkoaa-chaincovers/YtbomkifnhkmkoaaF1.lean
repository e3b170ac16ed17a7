/- Contracts: Len, through; the document's Len. -/
import Derived.Test.YtbomkifnhkmkoaaFitMath
import Derived.Test.YtbomkifnhkmkoaaLHead
namespace Go.Proofs.Ytbomkifnhkmkoaa
open Go.RowKit Fl
set_option maxRecDepth 100000

theorem lenL_at (ss : List (Int × Int × Int)) (i : Nat) (h : i < ss.length) : lenL ss (i : Int) = ss[i].1 := by
  unfold lenL hasB
  rw [if_pos (by simp; omega)]
  simp [List.getD, h]
theorem LayV.sec_at {W : World} {D n0 n1 n2 n3 n4 c0 c1 c2 c3 c4 : Nat} {A0 A1 A2 A3 A4 : Option Addr} {t0 t1 t2 t3 t4 : Int} {L : Lay}
    (h : LayV W D (.agg #[.slice A0 n0 c0, .slice A1 n1 c1, .slice A2 n2 c2, .slice A3 n3 c3, .slice A4 n4 c4, .int .i64 t0, .int .i64 t1, .int .i64 t2, .int .i64 t3, .int .i64 t4]) L) (i : Nat) (hi : i < L.secs.length) :
    ∃ b o, A1 = some ⟨b, o, none⟩ ∧ W.cell? ⟨b, o + i * 3, none⟩ = some (.int .i64 L.secs[i].1) := by
  obtain ⟨vN, vS, vP, vQ, vR, ps, hv, hd⟩ := h
  injection hv with hv
  have e : vS = .slice A1 n1 c1 := by
    have := congrArg (fun x : Array Value => x[1]?) hv
    simpa using this.symm
  subst e
  obtain ⟨A', c', e', hx⟩ := hd.s
  injection e' with e1 e2 e3
  subst e1 e3
  obtain ⟨b, o, hA, hb, hc⟩ := hx (by omega)
  exact ⟨b, o, hA, (hc i hi).1⟩


set_option maxHeartbeats 1000000 in
theorem len_any (w : World) (D : Nat) (v : Value) (L : Lay) (s : Int) (h : IsGr w D v L) (hL : Fits L) :
    Calls Try.prog 38 #[v, .int .i64 s] w fun e w' => e = .returned (.int .i64 (lenL L.secs s)) ∧ w = w' := by
  have hI := h
  obtain ⟨g, vS, vQ, vP, rfl, hg⟩ := h
  cases hb : hasB L.secs s with
  | false =>
    have HB := Lib.hid hb
    have HE : Hid (0 = lenL L.secs s) := by show _ = _; unfold lenL; rw [hb]; rfl
    generalize lenL L.secs s = r at *
    have HI := Lib.hid hI
    clear hI hg hb
    go_enter Try.func38, Try.ntmps38
    go_wp2_with fail
    refine (has_any w D _ L s HI.out hL).mono ?_; rintro e w' ⟨rfl, rfl⟩
    rw [HB.out]
    go_wp2_with fail
    go_ret
    exact ⟨ret_int HE.out, rfl⟩
  | true =>
    obtain ⟨i, rfl, hi⟩ := hasB_nat hb
    have HB := Lib.hid hb
    have HE : Hid ((L.secs.getD i (0, 0, 0)).1 = lenL L.secs (i : Int)) := by show _ = _; unfold lenL; rw [hb]; rfl
    generalize lenL L.secs (i : Int) = r at *
    have HI := Lib.hid hI
    obtain ⟨A, c, rfl⟩ := hg.secs
    have f0 := hg.row.cell 0
    simp only [List.getElem?_toArray, List.getElem?_cons_zero] at f0
    obtain ⟨b, o, rfl, -, c1, -, -⟩ := hg.s.at i hi
    have hge : L.secs.getD i (0, 0, 0) = L.secs[i] := by simp [List.getD, hi]
    rw [hge] at HE
    have hs := hL.s
    clear hI hg hb hge
    generalize L.secs[i] = z at *
    have HL := Lib.hid hL
    clear hL
    generalize hn : L.secs.length = n at *
    have HN := Lib.hid hn
    clear hn
    go_enter Try.func38, Try.ntmps38
    go_wp2_with fail
    refine (has_any w D _ L (i : Int) HI.out HL.out).mono ?_; rintro e w' ⟨rfl, rfl⟩
    rw [HB.out]
    go_wp2_with fail
    go_ret
    exact ⟨ret_int HE.out, rfl⟩

set_option maxHeartbeats 2000000 in
theorem refLen_any (w : World) (D : Nat) (v : Value) (L : Lay) (s : Int) (h : LayV w D v L) (hD : D ≤ w.heap.size) (hL : Fits L) :
    Calls Try.prog 20 #[v, .int .i64 s] w fun e w' => e = .returned (.int .i64 (lenL L.secs s)) ∧ Below w.heap.size w w' := by
  have HV := Lib.hid h
  obtain ⟨A0, k0, c0, A1, k1, c1, A2, k2, c2, A3, k3, c3, A4, k4, c4, t0, t1, t2, t3, t4, rfl, hk0, hk1, hk2, hk3⟩ := h.lens
  have HKK : Hid (L.secs.length = k1 ∧ L.parts.length = k2) := ⟨hk1, hk2⟩
  have HBA := Lib.hid ((Below.refl w.heap.size w).alloc (Nat.le_refl _) (.cells #[.slice A0 k0 c0, .slice A1 k1 c1, .slice A2 k2 c2, .slice A3 k3 c3, .slice A4 k4 c4, .int .i64 t0, .int .i64 t1, .int .i64 t2, .int .i64 t3, .int .i64 t4] 37))
  have HRA := Lib.hid (Row.new w 37 #[.slice A0 k0 c0, .slice A1 k1 c1, .slice A2 k2 c2, .slice A3 k3 c3, .slice A4 k4 c4, .int .i64 t0, .int .i64 t1, .int .i64 t2, .int .i64 t3, .int .i64 t4])
  have HL := Lib.hid hL
  clear hL hk0 hk1 hk2 hk3
  obtain ⟨B0, hB0⟩ : ∃ n, n = w.heap.size := ⟨_, rfl⟩
  rw [← hB0] at HBA ⊢
  have HB0 := Lib.hid hB0
  have hB1 : B0 ≤ w.heap.size := by omega
  have hDB : D ≤ B0 := by omega
  clear hB0 hD
  have hsl : k1 ≤ 100 := by have := HKK.out; have := HL.out.s; omega
  by_cases hs : 0 ≤ s ∧ s < (k1 : Int)
  · obtain ⟨i, rfl⟩ := Int.eq_ofNat_of_zero_le hs.1
    have him : i < L.secs.length := by have := HKK.out; omega
    have HE := Lib.hid (lenL_at L.secs i him)
    generalize lenL L.secs (i : Int) = r at *
    go_enter Try.func20, Try.ntmps20
    go_upto_region 1 with (fail)
    obtain ⟨n0, hn0⟩ : ∃ n, n = w.heap.size := ⟨_, rfl⟩
    rw [← hn0] at HRA ⊢
    have HN0 : Hid (n0 = B0) := by have := HB0.out; show _ = _; omega
    clear hn0
    generalize w.alloc (.cells #[.slice A0 k0 c0, .slice A1 k1 c1, .slice A2 k2 c2, .slice A3 k3 c3, .slice A4 k4 c4, .int .i64 t0, .int .i64 t1, .int .i64 t2, .int .i64 t3, .int .i64 t4] 37) = W0 at *
    have HVA := Lib.hid (HV.out.keep HBA.out hDB)
    obtain ⟨b, o, hA, q0⟩ := HVA.out.sec_at i him
    rw [← HE.out] at q0
    have l1 := HRA.out.cell 1
    simp only [List.getElem?_toArray, List.getElem?_cons_zero, List.getElem?_cons_succ] at l1
    subst hA
    have h1 : ¬ (i : Int) < 0 := by omega
    have h2 : ¬ (k1 : Int) ≤ (i : Int) := by omega
    have h3 : ¬ k1 ≤ i := by omega
    have h4 : i < k1 := by omega
    clear HE hs
    go_wp2_with fail
    go_ret
    exact ⟨rfl, HBA.out⟩
  · have HE : Hid (lenL L.secs s = 0) := by
      show _ = _
      unfold lenL hasB
      rw [if_neg]
      simp only [Bool.and_eq_true, decide_eq_true_eq]
      have := HKK.out
      omega
    generalize lenL L.secs s = r at *
    go_enter Try.func20, Try.ntmps20
    go_upto_region 1 with (fail)
    obtain ⟨n0, hn0⟩ : ∃ n, n = w.heap.size := ⟨_, rfl⟩
    rw [← hn0] at HRA ⊢
    have HN0 : Hid (n0 = B0) := by have := HB0.out; show _ = _; omega
    clear hn0
    generalize w.alloc (.cells #[.slice A0 k0 c0, .slice A1 k1 c1, .slice A2 k2 c2, .slice A3 k3 c3, .slice A4 k4 c4, .int .i64 t0, .int .i64 t1, .int .i64 t2, .int .i64 t3, .int .i64 t4] 37) = W0 at *
    have l1 := HRA.out.cell 1
    simp only [List.getElem?_toArray, List.getElem?_cons_zero, List.getElem?_cons_succ] at l1
    by_cases h1 : s < 0
    · go_wp2_with fail
      go_ret
      exact ⟨ret_int HE.out.symm, HBA.out⟩
    · have h2 : (k1 : Int) ≤ s := by omega
      have h3 : 0 ≤ s := by omega
      go_wp2_with fail
      go_ret
      exact ⟨ret_int HE.out.symm, HBA.out⟩

end Go.Proofs.Ytbomkifnhkmkoaa
