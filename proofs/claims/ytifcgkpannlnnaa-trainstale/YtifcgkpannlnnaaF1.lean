/- Contracts: Len, through; the document's Len. -/
import Derived.Test.YtifcgkpannlnnaaFitMath
import Derived.Test.YtifcgkpannlnnaaQ1
import Derived.Test.YtifcgkpannlnnaaLHead
namespace Go.Proofs.Ytifcgkpannlnnaa
open Go.RowKit Fl
set_option maxRecDepth 100000

theorem lenL_at (ss : List (Int × Int × Int)) (i : Nat) (h : i < ss.length) : lenL ss (i : Int) = ss[i].1 := by
  unfold lenL hasB
  rw [if_pos (by simp; omega)]
  simp [List.getD, h]
theorem LayV.sec_at {W : World} {D n0 n1 n2 n3 n4 c0 c1 c2 c3 c4 : Nat} {A0 A1 A2 A3 A4 : Option Addr} {t0 t1 t2 t3 t4 : Int} {L : Lay}
    (h : LayV W D (.agg #[.slice A0 n0 c0, .slice A1 n1 c1, .slice A2 n2 c2, .slice A3 n3 c3, .slice A4 n4 c4, .int .i64 t0, .int .i64 t1, .int .i64 t2, .int .i64 t3, .int .i64 t4]) L) (i : Nat) (hi : i < L.secs.length) :
    ∃ b o, A1 = some ⟨b, o, none⟩ ∧ W.cell? ⟨b, o + i * 3, none⟩ = some (.int .i64 L.secs[i].1) := by
  obtain ⟨vN, vS, vP, vQ, vR, ps, hv, hd⟩ := h
  injection hv with hv
  have e : vS = .slice A1 n1 c1 := by
    have := congrArg (fun x : Array Value => x[1]?) hv
    simpa using this.symm
  subst e
  obtain ⟨A', c', e', hx⟩ := hd.s
  injection e' with e1 e2 e3
  subst e1 e3
  obtain ⟨b, o, hA, hb, hc⟩ := hx (by omega)
  exact ⟨b, o, hA, (hc i hi).1⟩


set_option maxHeartbeats 1000000 in
theorem len_any (w : World) (D : Nat) (v : Value) (L : Lay) (s : Int) (h : IsGr w D v L) (hL : Fits L) :
    Calls Try.prog 36 #[v, .int .i64 s] w fun e w' => e = .returned (.int .i64 (lenL L.secs s)) ∧ w = w' := by
  have hI := h
  obtain ⟨g, vS, vQ, vP, rfl, hg⟩ := h
  cases hb : hasB L.secs s with
  | false =>
    have HB := Lib.hid hb
    have HE : Hid (0 = lenL L.secs s) := by show _ = _; unfold lenL; rw [hb]; rfl
    generalize lenL L.secs s = r at *
    have HI := Lib.hid hI
    clear hI hg hb
    go_enter Try.func36, Try.ntmps36
    go_wp2_with fail
    refine (has_any w D _ L s HI.out hL).mono ?_; rintro e w' ⟨rfl, rfl⟩
    rw [HB.out]
    go_wp2_with fail
    go_ret
    exact ⟨ret_int HE.out, rfl⟩
  | true =>
    obtain ⟨i, rfl, hi⟩ := hasB_nat hb
    have HB := Lib.hid hb
    have HE : Hid ((L.secs.getD i (0, 0, 0)).1 = lenL L.secs (i : Int)) := by show _ = _; unfold lenL; rw [hb]; rfl
    generalize lenL L.secs (i : Int) = r at *
    have HI := Lib.hid hI
    obtain ⟨A, c, rfl⟩ := hg.secs
    have f0 := hg.row.cell 0
    simp only [List.getElem?_toArray, List.getElem?_cons_zero] at f0
    obtain ⟨b, o, rfl, -, c1, -, -⟩ := hg.s.at i hi
    have hge : L.secs.getD i (0, 0, 0) = L.secs[i] := by simp [List.getD, hi]
    rw [hge] at HE
    have hs := hL.s
    clear hI hg hb hge
    generalize L.secs[i] = z at *
    have HL := Lib.hid hL
    clear hL
    generalize hn : L.secs.length = n at *
    have HN := Lib.hid hn
    clear hn
    go_enter Try.func36, Try.ntmps36
    go_wp2_with fail
    refine (has_any w D _ L (i : Int) HI.out HL.out).mono ?_; rintro e w' ⟨rfl, rfl⟩
    rw [HB.out]
    go_wp2_with fail
    go_ret
    exact ⟨ret_int HE.out, rfl⟩

set_option maxHeartbeats 2000000 in
theorem refLen_any (w : World) (D : Nat) (v : Value) (L : Lay) (s : Int) (h : LayV w D v L) (hD : D ≤ w.heap.size) (hL : Fits L) :
    Calls Try.prog 35 #[v, .int .i64 s] w fun e w' => e = .returned (.int .i64 (lenL L.secs s)) ∧ Below w.heap.size w w' := by
  have HV := Lib.hid h
  obtain ⟨A0, k0, c0, A1, k1, c1, A2, k2, c2, A3, k3, c3, A4, k4, c4, t0, t1, t2, t3, t4, rfl, hk0, hk1, hk2, hk3⟩ := h.lens
  have HKK : Hid (L.secs.length = k1 ∧ L.parts.length = k2) := ⟨hk1, hk2⟩
  have HBA := Lib.hid ((Below.refl w.heap.size w).alloc (Nat.le_refl _) (.cells #[.slice A0 k0 c0, .slice A1 k1 c1, .slice A2 k2 c2, .slice A3 k3 c3, .slice A4 k4 c4, .int .i64 t0, .int .i64 t1, .int .i64 t2, .int .i64 t3, .int .i64 t4] 36))
  have HRA := Lib.hid (Row.new w 36 #[.slice A0 k0 c0, .slice A1 k1 c1, .slice A2 k2 c2, .slice A3 k3 c3, .slice A4 k4 c4, .int .i64 t0, .int .i64 t1, .int .i64 t2, .int .i64 t3, .int .i64 t4])
  have HL := Lib.hid hL
  clear hL hk0 hk1 hk2 hk3
  obtain ⟨B0, hB0⟩ : ∃ n, n = w.heap.size := ⟨_, rfl⟩
  rw [← hB0] at HBA ⊢
  have HB0 := Lib.hid hB0
  have hB1 : B0 ≤ w.heap.size := by omega
  have hDB : D ≤ B0 := by omega
  clear hB0 hD
  have hsl : k1 ≤ 100 := by have := HKK.out; have := HL.out.s; omega
  by_cases hs : 0 ≤ s ∧ s < (k1 : Int)
  · obtain ⟨i, rfl⟩ := Int.eq_ofNat_of_zero_le hs.1
    have him : i < L.secs.length := by have := HKK.out; omega
    have HE := Lib.hid (lenL_at L.secs i him)
    generalize lenL L.secs (i : Int) = r at *
    go_enter Try.func35, Try.ntmps35
    go_upto_region 1 with (fail)
    obtain ⟨n0, hn0⟩ : ∃ n, n = w.heap.size := ⟨_, rfl⟩
    rw [← hn0] at HRA ⊢
    have HN0 : Hid (n0 = B0) := by have := HB0.out; show _ = _; omega
    clear hn0
    generalize w.alloc (.cells #[.slice A0 k0 c0, .slice A1 k1 c1, .slice A2 k2 c2, .slice A3 k3 c3, .slice A4 k4 c4, .int .i64 t0, .int .i64 t1, .int .i64 t2, .int .i64 t3, .int .i64 t4] 36) = W0 at *
    have HVA := Lib.hid (HV.out.keep HBA.out hDB)
    obtain ⟨b, o, hA, q0⟩ := HVA.out.sec_at i him
    rw [← HE.out] at q0
    have l1 := HRA.out.cell 1
    simp only [List.getElem?_toArray, List.getElem?_cons_zero, List.getElem?_cons_succ] at l1
    subst hA
    have h1 : ¬ (i : Int) < 0 := by omega
    have h2 : ¬ (k1 : Int) ≤ (i : Int) := by omega
    have h3 : ¬ k1 ≤ i := by omega
    have h4 : i < k1 := by omega
    clear HE hs
    go_wp2_with fail
    go_ret
    exact ⟨rfl, HBA.out⟩
  · have HE : Hid (lenL L.secs s = 0) := by
      show _ = _
      unfold lenL hasB
      rw [if_neg]
      simp only [Bool.and_eq_true, decide_eq_true_eq]
      have := HKK.out
      omega
    generalize lenL L.secs s = r at *
    go_enter Try.func35, Try.ntmps35
    go_upto_region 1 with (fail)
    obtain ⟨n0, hn0⟩ : ∃ n, n = w.heap.size := ⟨_, rfl⟩
    rw [← hn0] at HRA ⊢
    have HN0 : Hid (n0 = B0) := by have := HB0.out; show _ = _; omega
    clear hn0
    generalize w.alloc (.cells #[.slice A0 k0 c0, .slice A1 k1 c1, .slice A2 k2 c2, .slice A3 k3 c3, .slice A4 k4 c4, .int .i64 t0, .int .i64 t1, .int .i64 t2, .int .i64 t3, .int .i64 t4] 36) = W0 at *
    have l1 := HRA.out.cell 1
    simp only [List.getElem?_toArray, List.getElem?_cons_zero, List.getElem?_cons_succ] at l1
    by_cases h1 : s < 0
    · go_wp2_with fail
      go_ret
      exact ⟨ret_int HE.out.symm, HBA.out⟩
    · have h2 : (k1 : Int) ≤ s := by omega
      have h3 : 0 ≤ s := by omega
      go_wp2_with fail
      go_ret
      exact ⟨ret_int HE.out.symm, HBA.out⟩

theorem closure64 (w : World) (a b n : Int) (bx : Nat) (hx : w.cell? ⟨bx, 0, none⟩ = some (.int .i64 n)) :
    Calls Try.prog 64 #[.agg #[.int .i64 a, .int .i64 b], .pointer (some ⟨bx, 0, none⟩)] w fun e w' => e = .returned (.bool (a == n)) ∧ Below w.heap.size w w' := by
  have k0 := cell_alloc (o := .cells #[.int .i64 a, .int .i64 b] 85) hx
  have HB := Lib.hid ((Below.refl w.heap.size w).alloc (Nat.le_refl _) (.cells #[.int .i64 a, .int .i64 b] 85))
  clear hx
  go_enter Try.func64, Try.ntmps64
  go_wp2_with fail
  go_ret
  exact ⟨rfl, HB.out⟩

set_option maxHeartbeats 2000000 in
theorem indexEnds64 (w : World) (D bx : Nat) (v : Value) (ps : List (Int × Int)) (n : Int) (h : Prs w D v ps) (hD : D ≤ w.heap.size) (hl : ps.length ≤ 100) (hx : w.cell? ⟨bx, 0, none⟩ = some (.int .i64 n)) (hbx : bx < w.heap.size) :
    Calls Try.prog 63 #[v, .func (.func 64) #[] #[.pointer (some ⟨bx, 0, none⟩)]] w fun e w' => e = .returned (.int .i64 (idxI (inL ps n))) ∧ Below w.heap.size w w' := by
  have HP := Lib.hid h
  obtain ⟨A, c, rfl, -⟩ := h
  have HX := Lib.hid hx
  clear hx
  obtain ⟨r, hr⟩ : ∃ r, idxI (inL ps n) = r := ⟨_, rfl⟩
  rw [hr]
  have HR := Lib.hid hr
  clear hr
  obtain ⟨m, hm⟩ : ∃ m, ps.length = m := ⟨_, rfl⟩
  rw [hm] at HP hl ⊢
  have HM := Lib.hid hm
  clear hm
  obtain ⟨B0, hB0⟩ : ∃ n, n = w.heap.size := ⟨_, rfl⟩
  rw [← hB0] at hD hbx
  have HB0 := Lib.hid hB0
  clear hB0
  go_enter Try.func63, Try.ntmps63
  go_wp2_with fail
  go_loopw [8] (fun k wr => ∃ i : Nat, i ≤ m ∧ k = .int .i64 i ∧ Hid ((∀ j (hj : j < ps.length), j < i → ps[j].1 ≠ n) ∧ Below B0 w wr)) (fun k _ => m - (intOf k).toNat)
  case atStart => exact ⟨0, Nat.zero_le _, rfl, fun j _ hj => absurd hj (by omega), Below.refl _ _⟩
  case round =>
    obtain ⟨i, hi, rfl, HJ⟩ := hrel
    by_cases hlt : i < m
    · have him : i < ps.length := by have := HM.out; omega
      obtain ⟨b, o, rfl, hb, c0, c1⟩ := HP.out.at i him
      have lift : ∀ p : Addr, p.block < B0 → wr.cell? p = w.cell? p := fun p hp => HJ.out.2.cell (p := p) hp
      have e0 := (lift ⟨b, o + i * 2, none⟩ (by show b < B0; omega)).trans c0
      have e1 := (lift ⟨b, o + i * 2 + 1, none⟩ (by show b < B0; omega)).trans c1
      have HXR : Hid (wr.cell? ⟨bx, 0, none⟩ = some (.int .i64 n)) := (lift ⟨bx, 0, none⟩ hbx).trans HX.out
      have HQ1 : Hid (ps[i].1 = n → r = (i : Int)) := fun e => by rw [← HR.out, inL_at him e HJ.out.1]; rfl
      have HQ2 : Hid (ps[i].1 ≠ n → ∀ j (hj : j < ps.length), j < i + 1 → ps[j].1 ≠ n) := fun e j hj hji => by
        rcases Nat.lt_or_ge j i with c | c
        · exact HJ.out.1 j hj c
        · obtain rfl : j = i := by omega
          exact e
      clear lift c0 c1
      generalize ps[i] = z at *
      obtain ⟨z0, z1⟩ := z
      simp only at e0 e1 HQ1 HQ2
      go_wp2_with fail
      refine (closure64 wr z0 z1 n bx HXR.out).mono ?_; rintro e w1 ⟨rfl, hb1⟩
      have HB1 : Hid (Below B0 w w1) := HJ.out.2.trans (hb1.mono (by have := HJ.out.2.size; have := HB0.out; omega))
      clear hb1 e0 e1
      by_cases hz : z0 = n
      · have HF := Lib.hid (HQ1.out hz)
        subst hz
        go_wp2_with fail
        go_ret
        exact ⟨ret_int HF.out.symm, by rw [← HB0.out]; exact HB1.out⟩
      · have hz2 : (z0 == n) = false := by simpa using hz
        have HN2 := Lib.hid (HQ2.out hz)
        go_wp2_with fail
        go_roundw
        case rel => exact ⟨i + 1, by omega, by go_num, HN2.out, HB1.out⟩
        case measure => simp [intOf]; omega
    · have HF : Hid (r = -1) := by
        show _ = _
        rw [← HR.out, inL_none fun j hj => HJ.out.1 j hj (by have := HM.out; omega)]; rfl
      go_wp2_with fail
      go_ret
      exact ⟨ret_int HF.out.symm, by rw [← HB0.out]; exact HJ.out.2⟩

end Go.Proofs.Ytifcgkpannlnnaa
