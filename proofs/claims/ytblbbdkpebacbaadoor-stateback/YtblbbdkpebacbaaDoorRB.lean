/- Contracts: the document's Near, Part, Len. Contracts: the document's Beside; the law's same. -/
import Derived.Test.YtblbbdkpebacbaaDoorRise
import Derived.Test.YtblbbdkpebacbaaDoorNB
namespace Go.Proofs.YtblbbdkpebacbaaDoor
open Go.RowKit Fl
set_option maxRecDepth 100000

theorem LayV.part_at {W : World} {D n0 n1 n2 n3 n4 c0 c1 c2 c3 c4 : Nat} {A0 A1 A2 A3 A4 : Option Addr} {t0 t1 t2 t3 t4 : Int} {L : Lay}
    (h : LayV W D (.agg #[.slice A0 n0 c0, .slice A1 n1 c1, .slice A2 n2 c2, .slice A3 n3 c3, .slice A4 n4 c4, .int .i64 t0, .int .i64 t1, .int .i64 t2, .int .i64 t3, .int .i64 t4]) L) (i : Nat) (hi : i < L.parts.length) :
    ∃ b o u, A2 = some ⟨b, o, none⟩ ∧ W.cell? ⟨b, o + i, none⟩ = some u ∧ Rd W D u (ivals L.parts[i]) := by
  obtain ⟨vN, vS, vP, vQ, vR, ps, hv, hd⟩ := h
  obtain ⟨vs, hr, hl, he⟩ := hd.p
  injection hv with hv
  have e : vP = .slice A2 n2 c2 := by
    have := congrArg (fun x : Array Value => x[2]?) hv
    simpa using this.symm
  subst e
  obtain ⟨A', c', e', h0, hx⟩ := hr
  injection e' with e1 e2 e3
  subst e1 e3
  obtain ⟨b, o, hA, hb, hc⟩ := hx (by omega)
  exact ⟨b, o, vs[i], hA, hc i _ (List.getElem?_eq_getElem (by omega)), he i (by omega) hi⟩

set_option maxHeartbeats 4000000 in
theorem refPart_any (w : World) (D : Nat) (v : Value) (L : Lay) (n : Int) (h : LayV w D v L) (hD : D ≤ w.heap.size) (hL : Fits L) :
    Calls Tryd.prog 19 #[v, .int .i64 n] w fun e w' => e = .returned (.int .i64 (partL L.parts n)) ∧ Below w.heap.size w w' := by
  have HV := Lib.hid h
  obtain ⟨A0, k0, c0, A1, k1, c1, A2, k2, c2, A3, k3, c3, A4, k4, c4, t0, t1, t2, t3, t4, rfl, hk0, hk1, hk2, hk3⟩ := h.lens
  have HKK : Hid (L.secs.length = k1 ∧ L.parts.length = k2) := ⟨hk1, hk2⟩
  have HBA := Lib.hid ((Below.refl w.heap.size w).alloc (Nat.le_refl _) (.cells #[.slice A0 k0 c0, .slice A1 k1 c1, .slice A2 k2 c2, .slice A3 k3 c3, .slice A4 k4 c4, .int .i64 t0, .int .i64 t1, .int .i64 t2, .int .i64 t3, .int .i64 t4] 39))
  have HRA := Lib.hid (Row.new w 39 #[.slice A0 k0 c0, .slice A1 k1 c1, .slice A2 k2 c2, .slice A3 k3 c3, .slice A4 k4 c4, .int .i64 t0, .int .i64 t1, .int .i64 t2, .int .i64 t3, .int .i64 t4])
  have HL := Lib.hid hL
  clear hL hk0 hk1 hk2 hk3
  obtain ⟨B0, hB0⟩ : ∃ n, n = w.heap.size := ⟨_, rfl⟩
  rw [← hB0] at HBA ⊢
  have HB0 := Lib.hid hB0
  have hB1 : B0 ≤ w.heap.size := by omega
  have hDB : D ≤ B0 := by omega
  clear hB0 hD
  have hpl : k2 ≤ 100 := by have := HKK.out; have := HL.out.p; omega
  obtain ⟨r, hr⟩ : ∃ r, partL L.parts n = r := ⟨_, rfl⟩
  rw [hr]
  have HR := Lib.hid hr
  clear hr
  go_enter Tryd.func19, Tryd.ntmps19
  go_upto_region 1 with (fail)
  obtain ⟨n0, hn0⟩ : ∃ n, n = w.heap.size := ⟨_, rfl⟩
  rw [← hn0] at HRA ⊢
  have HN0 : Hid (n0 = B0) := by have := HB0.out; show _ = _; omega
  clear hn0
  generalize w.alloc (.cells #[.slice A0 k0 c0, .slice A1 k1 c1, .slice A2 k2 c2, .slice A3 k3 c3, .slice A4 k4 c4, .int .i64 t0, .int .i64 t1, .int .i64 t2, .int .i64 t3, .int .i64 t4] 39) = W0 at *
  have HVA := Lib.hid (HV.out.keep HBA.out hDB)
  have l2 := HRA.out.cell 2
  simp only [List.getElem?_toArray, List.getElem?_cons_zero, List.getElem?_cons_succ] at l2
  go_wp2_with fail
  go_loop [5] (fun k => ∃ i : Nat, i ≤ k2 ∧ k = .int .i64 i ∧ Hid (∀ j (hj : j < L.parts.length), j < i → L.parts[j].contains n = false)) (fun k => k2 - (intOf k).toNat)
  case atStart => exact ⟨0, Nat.zero_le _, rfl, fun j _ hj => absurd hj (by omega)⟩
  case round =>
    obtain ⟨i, hi, rfl, HJ⟩ := hrel
    by_cases hlt : i < k2
    · have him : i < L.parts.length := by have := HKK.out; omega
      obtain ⟨b, o, u, hA, e0, hru⟩ := HVA.out.part_at i him
      have HE := Lib.hid hru
      have hle := HL.out.r L.parts[i] (List.getElem_mem _)
      have HQ1 : Hid (L.parts[i].contains n = true → r = (i : Int)) := fun e => by rw [← HR.out]; exact partL_at him e HJ.out
      have HQ2 : Hid (L.parts[i].contains n = false → ∀ j (hj : j < L.parts.length), j < i + 1 → L.parts[j].contains n = false) := fun e j hj hji => by
        rcases Nat.lt_or_ge j i with c | c
        · exact HJ.out j hj c
        · obtain rfl : j = i := by omega
          exact e
      clear hru
      generalize L.parts[i] = z at *
      subst hA
      go_wp2_with fail
      refine (refHas_any W0 D u z n HE.out (by omega)).mono ?_; rintro e w' ⟨rfl, rfl⟩
      cases hz : z.contains n with
      | true =>
        have HF := Lib.hid (HQ1.out hz)
        clear HQ1 HQ2 hz
        go_wp2_with fail
        go_ret
        exact ⟨ret_int HF.out.symm, HBA.out⟩
      | false =>
        have HN2 := Lib.hid (HQ2.out hz)
        clear HQ1 HQ2 hz
        go_wp2_with fail
        go_round
        case rel => exact ⟨i + 1, by omega, by go_num, HN2⟩
        case measure => simp [intOf]; omega
    · have HF : Hid (r = -1) := by
        show _ = _
        rw [← HR.out]
        exact partL_none fun j hj => HJ.out j hj (by have := HKK.out; omega)
      go_wp2_with fail
      go_ret
      exact ⟨ret_int HF.out.symm, HBA.out⟩

end Go.Proofs.YtblbbdkpebacbaaDoor

namespace Go.Proofs.YtblbbdkpebacbaaDoor
open Go.RowKit Fl
set_option maxRecDepth 100000

end Go.Proofs.YtblbbdkpebacbaaDoor
