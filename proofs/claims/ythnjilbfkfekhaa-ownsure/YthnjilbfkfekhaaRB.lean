/- Contracts: the document's Near, Part, Len. Contracts: the document's Beside; the law's same. -/
import Derived.Test.YthnjilbfkfekhaaRise
import Derived.Test.YthnjilbfkfekhaaNB
namespace Go.Proofs.Ythnjilbfkfekhaa
open Go.RowKit Fl
set_option maxRecDepth 100000

theorem LayV.part_at {W : World} {D n0 n1 n2 n3 n4 c0 c1 c2 c3 c4 : Nat} {A0 A1 A2 A3 A4 : Option Addr} {t0 t1 t2 t3 t4 : Int} {L : Lay}
    (h : LayV W D (.agg #[.slice A0 n0 c0, .slice A1 n1 c1, .slice A2 n2 c2, .slice A3 n3 c3, .slice A4 n4 c4, .int .i64 t0, .int .i64 t1, .int .i64 t2, .int .i64 t3, .int .i64 t4]) L) (i : Nat) (hi : i < L.parts.length) :
    ∃ b o u, A2 = some ⟨b, o, none⟩ ∧ W.cell? ⟨b, o + i, none⟩ = some u ∧ Rd W D u (ivals L.parts[i]) := by
  obtain ⟨vN, vS, vP, vQ, vR, ps, hv, hd⟩ := h
  obtain ⟨vs, hr, hl, he⟩ := hd.p
  injection hv with hv
  have e : vP = .slice A2 n2 c2 := by
    have := congrArg (fun x : Array Value => x[2]?) hv
    simpa using this.symm
  subst e
  obtain ⟨A', c', e', h0, hx⟩ := hr
  injection e' with e1 e2 e3
  subst e1 e3
  obtain ⟨b, o, hA, hb, hc⟩ := hx (by omega)
  exact ⟨b, o, vs[i], hA, hc i _ (List.getElem?_eq_getElem (by omega)), he i (by omega) hi⟩

set_option maxHeartbeats 8000000 in
theorem refNear_any (w : World) (D : Nat) (v : Value) (L : Lay) (s : Int) (h : LayV w D v L) (hD : D ≤ w.heap.size) (hL : Fits L) :
    Calls Try.prog 37 #[v, .int .i64 s] w (RetOwn w.heap.size (nearL L s) w) := by
  have HV := Lib.hid h
  obtain ⟨A0, k0, c0, A1, k1, c1, A2, k2, c2, A3, k3, c3, A4, k4, c4, t0, t1, t2, t3, t4, rfl, hk0, hk1, hk2, hk3⟩ := h.lens
  have HKK : Hid (L.secs.length = k1 ∧ L.parts.length = k2) := ⟨hk1, hk2⟩
  have HBA := Lib.hid ((Below.refl w.heap.size w).alloc (Nat.le_refl _) (.cells #[.slice A0 k0 c0, .slice A1 k1 c1, .slice A2 k2 c2, .slice A3 k3 c3, .slice A4 k4 c4, .int .i64 t0, .int .i64 t1, .int .i64 t2, .int .i64 t3, .int .i64 t4] 39))
  have HRA := Lib.hid (Row.new w 39 #[.slice A0 k0 c0, .slice A1 k1 c1, .slice A2 k2 c2, .slice A3 k3 c3, .slice A4 k4 c4, .int .i64 t0, .int .i64 t1, .int .i64 t2, .int .i64 t3, .int .i64 t4])
  have HL := Lib.hid hL
  clear hL hk0 hk1 hk2 hk3
  obtain ⟨B0, hB0⟩ : ∃ n, n = w.heap.size := ⟨_, rfl⟩
  rw [← hB0] at HBA ⊢
  have HB0 := Lib.hid hB0
  have hB1 : B0 ≤ w.heap.size := by omega
  have hDB : D ≤ B0 := by omega
  clear hB0 hD
  have HE : Hid (nearL L s = riseL (nearTo L s 2)) := rfl
  generalize nearL L s = r at *
  obtain ⟨i3, hi3, hz30, hz31, hz32⟩ := info_parts Try.info3n
  go_enter Try.func37, Try.ntmps37
  go_upto_region 2 with (fail)
  obtain ⟨n0, hn0⟩ : ∃ n, n = w.heap.size := ⟨_, rfl⟩
  rw [← hn0] at HRA ⊢
  have HN0 : Hid (n0 = B0) := by have := HB0.out; show _ = _; omega
  clear hn0
  generalize w.alloc (.cells #[.slice A0 k0 c0, .slice A1 k1 c1, .slice A2 k2 c2, .slice A3 k3 c3, .slice A4 k4 c4, .int .i64 t0, .int .i64 t1, .int .i64 t2, .int .i64 t3, .int .i64 t4] 39) = W0 at *
  go_wp2_with fail
  go_loopw [5, 6] (fun t k wr => ∃ (i : Nat) (ns : List Int), i ≤ 2 ∧ ns.length ≤ 2 * i ∧ k = .int .i64 i ∧ Hid (ns = nearTo L s i ∧ wr.ownsRow B0 3 1 t ns.length (ivals ns) ∧ Below B0 w wr ∧ Row wr n0 39 #[.slice A0 k0 c0, .slice A1 k1 c1, .slice A2 k2 c2, .slice A3 k3 c3, .slice A4 k4 c4, .int .i64 t0, .int .i64 t1, .int .i64 t2, .int .i64 t3, .int .i64 t4])) (fun _ k _ => 2 - (intOf k).toNat)
  case atStart => exact ⟨0, [], Nat.zero_le _, Nat.zero_le _, rfl, rfl, World.ownsRow_nil _ _ _ _, HBA.out, HRA.out⟩
  case round =>
    obtain ⟨i, ns, hi, hnl, rfl, HJ⟩ := hrel
    obtain ⟨A5, c5, hv5⟩ := own_slice HJ.out.2.1
    subst hv5
    by_cases hlt : i < 2
    · have HS : Hid (nearTo L s (i + 1) = ns ++ (aroundL L (s, (i : Int))).map (·.1)) := by show _ = _; rw [HJ.out.1]; rfl
      have hal := aroundL_le L (s, (i : Int))
      have l0 := HJ.out.2.2.2.cell 0; have l1 := HJ.out.2.2.2.cell 1; have l2 := HJ.out.2.2.2.cell 2; have l3 := HJ.out.2.2.2.cell 3; have l4 := HJ.out.2.2.2.cell 4; have l5 := HJ.out.2.2.2.cell 5; have l6 := HJ.out.2.2.2.cell 6; have l7 := HJ.out.2.2.2.cell 7; have l8 := HJ.out.2.2.2.cell 8; have l9 := HJ.out.2.2.2.cell 9
      simp only [List.getElem?_toArray, List.getElem?_cons_zero, List.getElem?_cons_succ] at l0 l1 l2 l3 l4 l5 l6 l7 l8 l9
      obtain ⟨wJ, hwJ⟩ : ∃ x, x = wr := ⟨_, rfl⟩
      subst hwJ
      go_wp2_with fail
      refine (refAround_any wJ D _ L s (i : Int) (HV.out.keep HJ.out.2.2.1 hDB) (by have := HJ.out.2.2.1.size; omega) HL.out).mono ?_; rintro e w1 ⟨v1, rfl, hp1, hb1⟩
      have HO1 : Hid (w1.ownsRow B0 3 1 (.slice A5 ns.length c5) ns.length (ivals ns) ∧ Below B0 w w1 ∧ Row w1 n0 39 #[.slice A0 k0 c0, .slice A1 k1 c1, .slice A2 k2 c2, .slice A3 k3 c3, .slice A4 k4 c4, .int .i64 t0, .int .i64 t1, .int .i64 t2, .int .i64 t3, .int .i64 t4]) := ⟨own_below HJ.out.2.1 hb1, HJ.out.2.2.1.trans (hb1.mono (by have := HJ.out.2.2.1.size; omega)), Below.row hb1 HJ.out.2.2.2 HJ.out.2.2.2.lt⟩
      have HP1 := Lib.hid hp1
      obtain ⟨A9, c9, hv1, hpp⟩ := id hp1
      subst hv1
      clear hb1 hp1 hpp HJ l0 l1 l2 l3 l4 l5 l6 l7 l8 l9
      generalize aroundL L (s, (i : Int)) = ys at *
      obtain ⟨wM, hwM⟩ : ∃ x, x = w1 := ⟨_, rfl⟩
      subst hwM
      go_wp2_with fail
      go_loopw [5, 8] (fun t k wr => ∃ (j : Nat) (zs : List Int), j ≤ ys.length ∧ zs.length ≤ ns.length + j ∧ k = .int .i64 j ∧ Hid (zs = ns ++ (ys.take j).map (·.1) ∧ wr.ownsRow B0 3 1 t zs.length (ivals zs) ∧ Below B0 w wr ∧ Row wr n0 39 #[.slice A0 k0 c0, .slice A1 k1 c1, .slice A2 k2 c2, .slice A3 k3 c3, .slice A4 k4 c4, .int .i64 t0, .int .i64 t1, .int .i64 t2, .int .i64 t3, .int .i64 t4] ∧ Prs wr wM.heap.size (.slice A9 ys.length c9) ys ∧ wM.heap.size ≤ wr.heap.size)) (fun _ k _ => ys.length - (intOf k).toNat)
      case atStart => exact ⟨0, ns, Nat.zero_le _, Nat.le_refl _, rfl, by simp, HO1.out.1, HO1.out.2.1, HO1.out.2.2, HP1.out, Nat.le_refl _⟩
      case round =>
        obtain ⟨j, zs, hj, hzl, rfl, HK⟩ := hrel
        obtain ⟨A6, c6, hv6⟩ := own_slice HK.out.2.1
        subst hv6
        by_cases hlt2 : j < ys.length
        · have HSN : Hid (ns ++ (ys.take (j + 1)).map (·.1) = zs ++ [ys[j].1] ∧ ivals zs ++ [.int .i64 ys[j].1] = ivals (zs ++ [ys[j].1]) ∧ (zs ++ [ys[j].1]).length = zs.length + 1) := ⟨by rw [HK.out.1, List.append_assoc, firsts_take ys j hlt2], ivals_snoc' _ _, by simp⟩
          obtain ⟨b, o, hA, hbD, q0, q1⟩ := HK.out.2.2.2.2.1.at j hlt2
          subst hA
          generalize ys[j] = z at *
          obtain ⟨x, y⟩ := z
          simp only at q0 q1 HSN
          go_wp2_with (at_builtin; refine wpList_append_own _ rfl (.tmp 24) (.tmp 30) 45 rfl B0 3 i3 (.int .i64 0) 1 8 Try.underlying45 hi3 hz30 hz31 hz32 rfl (by decide) _ _ _ rfl (HK.out.2.1.alloc _) ⟨wr.heap.size, 0, none⟩ 1 1 [.int .i64 x] rfl rfl (one_new wr 3 _) (one_cell rfl) (by unfold maxLen; omega) (by omega) (by have := HK.out.2.2.1.size; simp; omega) ?_)
          intro v7 w7 hown7 hgrow7 _
          rw [HSN.out.2.1] at hown7
          have hba : Below B0 w (wr.alloc (.cells #[.int .i64 x] 3)) := HK.out.2.2.1.alloc (by have := HK.out.2.2.1.size; omega) _
          have HNX : Hid (zs ++ [x] = ns ++ (ys.take (j + 1)).map (·.1) ∧ w7.ownsRow B0 3 1 v7 (zs ++ [x]).length (ivals (zs ++ [x])) ∧ Below B0 w w7 ∧ Row w7 n0 39 #[.slice A0 k0 c0, .slice A1 k1 c1, .slice A2 k2 c2, .slice A3 k3 c3, .slice A4 k4 c4, .int .i64 t0, .int .i64 t1, .int .i64 t2, .int .i64 t3, .int .i64 t4] ∧ Prs w7 wM.heap.size (.slice (some ⟨b, o, none⟩) ys.length c9) ys ∧ wM.heap.size ≤ w7.heap.size) := by
            refine ⟨HSN.out.1.symm, by rw [HSN.out.2.2]; exact hown7, hba.grown hgrow7 (by have := hba.size; omega) (fun k hk => (HK.out.2.1.lt k hk).1), (HK.out.2.2.2.1.alloc _).grown hgrow7 (own_ne HK.out.2.1 HK.out.2.2.2.1 (by decide)), ?_, ?_⟩
            · exact (HK.out.2.2.2.2.1.mono (Nat.le_refl _) (fun kk hk => ((Below.refl wr.heap.size wr).alloc (Nat.le_refl _) (.cells #[.int .i64 x] 3)).block kk (Nat.lt_of_lt_of_le hk HK.out.2.2.2.2.2))).grown (HK.out.2.1.alloc _) (by decide) hgrow7
            · have h1 := hgrow7.size; have h2 := HK.out.2.2.2.2.2
              simp at h1; omega
          clear hown7 hgrow7 q0 q1 hba
          have hl7 := HSN.out.2.2
          go_wp2_with fail
          go_roundw
          case rel => exact ⟨j + 1, zs ++ [x], by omega, by omega, by go_num, HNX⟩
          case measure => simp [intOf]; omega
        · have HJE : Hid (zs = nearTo L s (i + 1)) := by
            have h1 := HK.out.1
            rw [List.take_of_length_le (by omega)] at h1
            show _ = _
            rw [HS.out]; exact h1
          have HK2 : Hid (wr.ownsRow B0 3 1 (.slice A6 zs.length c6) zs.length (ivals zs) ∧ Below B0 w wr ∧ Row wr n0 39 #[.slice A0 k0 c0, .slice A1 k1 c1, .slice A2 k2 c2, .slice A3 k3 c3, .slice A4 k4 c4, .int .i64 t0, .int .i64 t1, .int .i64 t2, .int .i64 t3, .int .i64 t4]) := ⟨HK.out.2.1, HK.out.2.2.1, HK.out.2.2.2.1⟩
          clear HK
          go_wp2_with fail
          go_roundw
          case rel => exact ⟨i + 1, zs, by omega, by omega, by go_num, HJE.out, HK2.out⟩
          case measure => simp [intOf]; omega
    · have HIE : Hid (ns = nearTo L s 2) := by have h1 := HJ.out.1; have e : i = 2 := by omega
                                               rw [e] at h1; exact h1
      have HJ2 := Lib.hid HJ.out
      clear HJ
      go_wp2_with fail
      refine (refRise_any wr _ ns (Rd.of_own HJ2.out.2.1) (by omega)).mono ?_; rintro e w8 ⟨v8, rfl, ho8, hb8⟩
      have HO8 : Hid (w8.ownsRow B0 3 1 v8 (riseL ns).length (ivals (riseL ns)) ∧ Below B0 w w8) := ⟨own_base ho8 (by have := HJ2.out.2.2.1.size; omega), HJ2.out.2.2.1.trans (hb8.mono (by have := HJ2.out.2.2.1.size; omega))⟩
      clear ho8 hb8
      go_wp2_with fail
      go_ret
      rw [HE.out, ← HIE.out]
      exact ⟨_, rfl, HO8.out.1, HO8.out.2⟩

set_option maxHeartbeats 4000000 in
theorem refPart_any (w : World) (D : Nat) (v : Value) (L : Lay) (n : Int) (h : LayV w D v L) (hD : D ≤ w.heap.size) (hL : Fits L) :
    Calls Try.prog 38 #[v, .int .i64 n] w fun e w' => e = .returned (.int .i64 (partL L.parts n)) ∧ Below w.heap.size w w' := by
  have HV := Lib.hid h
  obtain ⟨A0, k0, c0, A1, k1, c1, A2, k2, c2, A3, k3, c3, A4, k4, c4, t0, t1, t2, t3, t4, rfl, hk0, hk1, hk2, hk3⟩ := h.lens
  have HKK : Hid (L.secs.length = k1 ∧ L.parts.length = k2) := ⟨hk1, hk2⟩
  have HBA := Lib.hid ((Below.refl w.heap.size w).alloc (Nat.le_refl _) (.cells #[.slice A0 k0 c0, .slice A1 k1 c1, .slice A2 k2 c2, .slice A3 k3 c3, .slice A4 k4 c4, .int .i64 t0, .int .i64 t1, .int .i64 t2, .int .i64 t3, .int .i64 t4] 39))
  have HRA := Lib.hid (Row.new w 39 #[.slice A0 k0 c0, .slice A1 k1 c1, .slice A2 k2 c2, .slice A3 k3 c3, .slice A4 k4 c4, .int .i64 t0, .int .i64 t1, .int .i64 t2, .int .i64 t3, .int .i64 t4])
  have HL := Lib.hid hL
  clear hL hk0 hk1 hk2 hk3
  obtain ⟨B0, hB0⟩ : ∃ n, n = w.heap.size := ⟨_, rfl⟩
  rw [← hB0] at HBA ⊢
  have HB0 := Lib.hid hB0
  have hB1 : B0 ≤ w.heap.size := by omega
  have hDB : D ≤ B0 := by omega
  clear hB0 hD
  have hpl : k2 ≤ 100 := by have := HKK.out; have := HL.out.p; omega
  obtain ⟨r, hr⟩ : ∃ r, partL L.parts n = r := ⟨_, rfl⟩
  rw [hr]
  have HR := Lib.hid hr
  clear hr
  go_enter Try.func38, Try.ntmps38
  go_upto_region 1 with (fail)
  obtain ⟨n0, hn0⟩ : ∃ n, n = w.heap.size := ⟨_, rfl⟩
  rw [← hn0] at HRA ⊢
  have HN0 : Hid (n0 = B0) := by have := HB0.out; show _ = _; omega
  clear hn0
  generalize w.alloc (.cells #[.slice A0 k0 c0, .slice A1 k1 c1, .slice A2 k2 c2, .slice A3 k3 c3, .slice A4 k4 c4, .int .i64 t0, .int .i64 t1, .int .i64 t2, .int .i64 t3, .int .i64 t4] 39) = W0 at *
  have HVA := Lib.hid (HV.out.keep HBA.out hDB)
  have l2 := HRA.out.cell 2
  simp only [List.getElem?_toArray, List.getElem?_cons_zero, List.getElem?_cons_succ] at l2
  go_wp2_with fail
  go_loop [5] (fun k => ∃ i : Nat, i ≤ k2 ∧ k = .int .i64 i ∧ Hid (∀ j (hj : j < L.parts.length), j < i → L.parts[j].contains n = false)) (fun k => k2 - (intOf k).toNat)
  case atStart => exact ⟨0, Nat.zero_le _, rfl, fun j _ hj => absurd hj (by omega)⟩
  case round =>
    obtain ⟨i, hi, rfl, HJ⟩ := hrel
    by_cases hlt : i < k2
    · have him : i < L.parts.length := by have := HKK.out; omega
      obtain ⟨b, o, u, hA, e0, hru⟩ := HVA.out.part_at i him
      have HE := Lib.hid hru
      have hle := HL.out.r L.parts[i] (List.getElem_mem _)
      have HQ1 : Hid (L.parts[i].contains n = true → r = (i : Int)) := fun e => by rw [← HR.out]; exact partL_at him e HJ.out
      have HQ2 : Hid (L.parts[i].contains n = false → ∀ j (hj : j < L.parts.length), j < i + 1 → L.parts[j].contains n = false) := fun e j hj hji => by
        rcases Nat.lt_or_ge j i with c | c
        · exact HJ.out j hj c
        · obtain rfl : j = i := by omega
          exact e
      clear hru
      generalize L.parts[i] = z at *
      subst hA
      go_wp2_with fail
      refine (refHas_any W0 D u z n HE.out (by omega)).mono ?_; rintro e w' ⟨rfl, rfl⟩
      cases hz : z.contains n with
      | true =>
        have HF := Lib.hid (HQ1.out hz)
        clear HQ1 HQ2 hz
        go_wp2_with fail
        go_ret
        exact ⟨ret_int HF.out.symm, HBA.out⟩
      | false =>
        have HN2 := Lib.hid (HQ2.out hz)
        clear HQ1 HQ2 hz
        go_wp2_with fail
        go_round
        case rel => exact ⟨i + 1, by omega, by go_num, HN2⟩
        case measure => simp [intOf]; omega
    · have HF : Hid (r = -1) := by
        show _ = _
        rw [← HR.out]
        exact partL_none fun j hj => HJ.out j hj (by have := HKK.out; omega)
      go_wp2_with fail
      go_ret
      exact ⟨ret_int HF.out.symm, HBA.out⟩

end Go.Proofs.Ythnjilbfkfekhaa

namespace Go.Proofs.Ythnjilbfkfekhaa
open Go.RowKit Fl
set_option maxRecDepth 100000

set_option maxHeartbeats 8000000 in
theorem refBeside_any (w : World) (D : Nat) (v : Value) (L : Lay) (p : Int) (h : LayV w D v L) (hD : D ≤ w.heap.size) (hL : Fits L) :
    Calls Try.prog 21 #[v, .int .i64 p] w (RetOwn w.heap.size (besideL L p) w) := by
  have HV := Lib.hid h
  obtain ⟨A0, k0, c0, A1, k1, c1, A2, k2, c2, A3, k3, c3, A4, k4, c4, t0, t1, t2, t3, t4, rfl, hk0, hk1, hk2, hk3⟩ := h.lens
  have HKK : Hid (L.secs.length = k1 ∧ L.parts.length = k2) := ⟨hk1, hk2⟩
  have HBA := Lib.hid ((Below.refl w.heap.size w).alloc (Nat.le_refl _) (.cells #[.slice A0 k0 c0, .slice A1 k1 c1, .slice A2 k2 c2, .slice A3 k3 c3, .slice A4 k4 c4, .int .i64 t0, .int .i64 t1, .int .i64 t2, .int .i64 t3, .int .i64 t4] 39))
  have HRA := Lib.hid (Row.new w 39 #[.slice A0 k0 c0, .slice A1 k1 c1, .slice A2 k2 c2, .slice A3 k3 c3, .slice A4 k4 c4, .int .i64 t0, .int .i64 t1, .int .i64 t2, .int .i64 t3, .int .i64 t4])
  have HL := Lib.hid hL
  clear hL hk0 hk1 hk2 hk3
  obtain ⟨B0, hB0⟩ : ∃ n, n = w.heap.size := ⟨_, rfl⟩
  rw [← hB0] at HBA ⊢
  have HB0 := Lib.hid hB0
  have hB1 : B0 ≤ w.heap.size := by omega
  have hDB : D ≤ B0 := by omega
  clear hB0 hD
  have hpl : k2 ≤ 100 := by have := HKK.out; have := HL.out.p; omega
  obtain ⟨i3, hi3, hz30, hz31, hz32⟩ := info_parts Try.info3n
  by_cases hp : 0 ≤ p ∧ p < (k2 : Int)
  · obtain ⟨pn, rfl⟩ := Int.eq_ofNat_of_zero_le hp.1
    have hpn : pn < L.parts.length := by have := HKK.out; omega
    have HE : Hid (besideL L (pn : Int) = riseL (besTo L (pn : Int) L.parts[pn])) := by
      show _ = _
      unfold besideL
      rw [if_pos (by have := HKK.out; omega)]
      simp [List.getD, hpn]
    generalize besideL L (pn : Int) = r at *
    obtain ⟨b, o, u, hA2, e0, hru⟩ := HV.out.part_at pn hpn
    have HBL : Hid (b < B0) := by have h1 : b < w.heap.size := cell_lt e0; have := HB0.out; show b < B0; omega
    have HE0 := Lib.hid e0
    have hrl := HL.out.r L.parts[pn] (List.getElem_mem _)
    have HV1 := Lib.hid hru
    generalize L.parts[pn] = ss at *
    obtain ⟨As, cs, rfl, -, -⟩ := id HV1.out
    have hsl : (ivals ss).length = ss.length := by simp [ivals]
    rw [hsl] at HV1 HE0
    subst hA2
    have hpk : pn < k2 := by have := HKK.out; omega
    have hmp : ¬ k2 ≤ pn := by omega
    have hmi : ¬ (k2 : Int) ≤ (pn : Int) := by omega
    have hp0 : ¬ (pn : Int) < 0 := by omega
    clear hp e0 hru hsl hpn
    go_enter Try.func21, Try.ntmps21
    go_upto_region 1 with (fail)
    obtain ⟨n0, hn0⟩ : ∃ n, n = w.heap.size := ⟨_, rfl⟩
    rw [← hn0] at HRA ⊢
    have HN0 : Hid (n0 = B0) := by have := HB0.out; show _ = _; omega
    clear hn0
    generalize w.alloc (.cells #[.slice A0 k0 c0, .slice A1 k1 c1, .slice (some ⟨b, o, none⟩) k2 c2, .slice A3 k3 c3, .slice A4 k4 c4, .int .i64 t0, .int .i64 t1, .int .i64 t2, .int .i64 t3, .int .i64 t4] 39) = W0 at *
    have l2 := HRA.out.cell 2
    simp only [List.getElem?_toArray, List.getElem?_cons_zero, List.getElem?_cons_succ] at l2
    go_upto_region 4 with (fail)
    clear l2
    go_wp2_with fail
    go_loopw [5, 6] (fun t k wr => ∃ (i : Nat) (bs0 : List Int), i ≤ ss.length ∧ bs0.length ≤ 4 * i ∧ k = .int .i64 i ∧ Hid (bs0 = besTo L (pn : Int) (ss.take i) ∧ wr.ownsRow B0 3 1 t bs0.length (ivals bs0) ∧ Below B0 w wr ∧ Row wr n0 39 #[.slice A0 k0 c0, .slice A1 k1 c1, .slice (some ⟨b, o, none⟩) k2 c2, .slice A3 k3 c3, .slice A4 k4 c4, .int .i64 t0, .int .i64 t1, .int .i64 t2, .int .i64 t3, .int .i64 t4])) (fun _ k _ => ss.length - (intOf k).toNat)
    case atStart => exact ⟨0, [], Nat.zero_le _, Nat.zero_le _, rfl, rfl, World.ownsRow_nil _ _ _ _, HBA.out, HRA.out⟩
    case round =>
      obtain ⟨i, bs0, hi, hnl, rfl, HJ⟩ := hrel
      obtain ⟨A5, c5, hv5⟩ := own_slice HJ.out.2.1
      subst hv5
      have l2 := HJ.out.2.2.2.cell 2
      simp only [List.getElem?_toArray, List.getElem?_cons_zero, List.getElem?_cons_succ] at l2
      have m0 : wr.cell? ⟨b, o + pn, none⟩ = some (.slice As ss.length cs) := (HJ.out.2.2.1.cell (p := ⟨b, o + pn, none⟩) HBL.out).trans HE0.out
      by_cases hlt : i < ss.length
      · have HS : Hid (besTo L (pn : Int) (ss.take (i + 1)) = bs0 ++ partsOf L (pn : Int) (nearL L ss[i])) := by show _ = _; rw [besTo_take L (pn : Int) ss i hlt, HJ.out.1]
        obtain ⟨bs, os, hA, hbs, q0⟩ := HV1.out.at (i := i) (u := .int .i64 ss[i]) (by simp [ivals, hlt])
        subst hA
        generalize ss[i] = x at *
        have hal := nearL_le L x
        have HQ7 : Hid (wr.drew.ownsRow B0 3 1 (.slice A5 bs0.length c5) bs0.length (ivals bs0) ∧ Below B0 w wr.drew ∧ Row wr.drew n0 39 #[.slice A0 k0 c0, .slice A1 k1 c1, .slice (some ⟨b, o, none⟩) k2 c2, .slice A3 k3 c3, .slice A4 k4 c4, .int .i64 t0, .int .i64 t1, .int .i64 t2, .int .i64 t3, .int .i64 t4]) := ⟨HJ.out.2.1, HJ.out.2.2.1.drew, HJ.out.2.2.2⟩
        have m0d : wr.drew.cell? ⟨b, o + pn, none⟩ = some (.slice (some ⟨bs, os, none⟩) ss.length cs) := m0
        have q0d : wr.drew.cell? ⟨bs, os + i, none⟩ = some (.int .i64 x) := (HJ.out.2.2.1.drew.cell (p := ⟨bs, os + i, none⟩) (by show bs < B0; omega)).trans q0
        go_upto_region 7 with (fail)
        clear m0 l2 q0
        refine wp_region_still_tail 9 (by kernel_rfl) (by kernel_rfl) ?_
        change wpStill _ _ wr.drew (fun a' => wpList _ _ _ _ a' wr.drew) _ _
        clear HJ
        generalize wr.drew = wq at *
        have l0 := HQ7.out.2.2.cell 0; have l1 := HQ7.out.2.2.cell 1; have l2 := HQ7.out.2.2.cell 2; have l3 := HQ7.out.2.2.cell 3; have l4 := HQ7.out.2.2.cell 4; have l5 := HQ7.out.2.2.cell 5; have l6 := HQ7.out.2.2.cell 6; have l7 := HQ7.out.2.2.cell 7; have l8 := HQ7.out.2.2.cell 8; have l9 := HQ7.out.2.2.cell 9
        simp only [List.getElem?_toArray, List.getElem?_cons_zero, List.getElem?_cons_succ] at l0 l1 l2 l3 l4 l5 l6 l7 l8 l9
        simp only [List.take_succ_cons, List.take_zero, List.drop_succ_cons, List.drop_zero]
        repeat still_step
        refine wpStill_nil ?_
        go_wp2_with fail
        refine (refNear_any wq D _ L x (HV.out.keep HQ7.out.2.1 hDB) (by have := HQ7.out.2.1.size; omega) HL.out).mono ?_; rintro e w1 ⟨v1, rfl, ho1, hb1⟩
        obtain ⟨A9, c9, hv1⟩ := own_slice ho1
        subst hv1
        have HO1 : Hid (w1.ownsRow B0 3 1 (.slice A5 bs0.length c5) bs0.length (ivals bs0) ∧ Below B0 w w1 ∧ Row w1 n0 39 #[.slice A0 k0 c0, .slice A1 k1 c1, .slice (some ⟨b, o, none⟩) k2 c2, .slice A3 k3 c3, .slice A4 k4 c4, .int .i64 t0, .int .i64 t1, .int .i64 t2, .int .i64 t3, .int .i64 t4]) := ⟨own_below HQ7.out.1 hb1, HQ7.out.2.1.trans (hb1.mono (by have := HQ7.out.2.1.size; omega)), Below.row hb1 HQ7.out.2.2 HQ7.out.2.2.lt⟩
        have HP1 : Hid (w1.ownsRow wq.heap.size 3 1 (.slice A9 (nearL L x).length c9) (nearL L x).length (ivals (nearL L x))) := ho1
        have HFR : Hid (∀ k, (Value.slice A9 (nearL L x).length c9).ownBlock = some k → (Value.slice A5 bs0.length c5).ownBlock ≠ some k) := fun k hk e => by
          have h1 := (ho1.lt k hk).1
          have h2 := (HQ7.out.1.lt k e).2
          omega
        clear hb1 ho1 HQ7 m0d q0d l0 l1 l2 l3 l4 l5 l6 l7 l8 l9
        generalize nearL L x = ns at *
        obtain ⟨BN, hBN⟩ : ∃ n, n = wq.heap.size := ⟨_, rfl⟩
        rw [← hBN] at HP1
        clear hBN
        go_wp2_with fail
        go_loopw [5, 8] (fun t k wr => ∃ (j : Nat) (zs : List Int), j ≤ ns.length ∧ zs.length ≤ bs0.length + j ∧ k = .int .i64 j ∧ Hid (zs = bs0 ++ partsOf L (pn : Int) (ns.take j) ∧ wr.ownsRow B0 3 1 t zs.length (ivals zs) ∧ Below B0 w wr ∧ Row wr n0 39 #[.slice A0 k0 c0, .slice A1 k1 c1, .slice (some ⟨b, o, none⟩) k2 c2, .slice A3 k3 c3, .slice A4 k4 c4, .int .i64 t0, .int .i64 t1, .int .i64 t2, .int .i64 t3, .int .i64 t4] ∧ wr.ownsRow BN 3 1 (.slice A9 ns.length c9) ns.length (ivals ns) ∧ ∀ k, (Value.slice A9 ns.length c9).ownBlock = some k → t.ownBlock ≠ some k)) (fun _ k _ => ns.length - (intOf k).toNat)
        case atStart => exact ⟨0, bs0, Nat.zero_le _, Nat.le_refl _, rfl, by simp [partsOf], HO1.out.1, HO1.out.2.1, HO1.out.2.2, HP1.out, HFR.out⟩
        case round =>
          obtain ⟨j, zs, hj, hzl, rfl, HK⟩ := hrel
          obtain ⟨A6, c6, hv6⟩ := own_slice HK.out.2.1
          subst hv6
          by_cases hlt2 : j < ns.length
          · have HST : Hid (bs0 ++ partsOf L (pn : Int) (ns.take (j + 1)) = zs ++ (if otherP (pn : Int) (partL L.parts ns[j]) = true then [partL L.parts ns[j]] else [])) := by show _ = _; rw [partsOf_take L (pn : Int) ns j hlt2, HK.out.1, List.append_assoc]
            obtain ⟨bb, oo, hA, hbD, q0⟩ := (Rd.of_own HK.out.2.2.2.2.1).at (i := j) (u := .int .i64 ns[j]) (by simp [ivals, hlt2])
            subst hA
            generalize ns[j] = y at *
            have HQ9 : Hid (wr.drew.ownsRow B0 3 1 (.slice A6 zs.length c6) zs.length (ivals zs) ∧ Below B0 w wr.drew ∧ Row wr.drew n0 39 #[.slice A0 k0 c0, .slice A1 k1 c1, .slice (some ⟨b, o, none⟩) k2 c2, .slice A3 k3 c3, .slice A4 k4 c4, .int .i64 t0, .int .i64 t1, .int .i64 t2, .int .i64 t3, .int .i64 t4] ∧ wr.drew.ownsRow BN 3 1 (.slice (some ⟨bb, oo, none⟩) ns.length c9) ns.length (ivals ns)) := ⟨HK.out.2.1, HK.out.2.2.1.drew, HK.out.2.2.2.1, HK.out.2.2.2.2.1⟩
            have HF3 := Lib.hid HK.out.2.2.2.2.2
            have q0d : wr.drew.cell? ⟨bb, oo + j, none⟩ = some (.int .i64 y) := q0
            go_upto_region 11 with (fail)
            clear q0
            refine wp_region_still_tail 5 (by kernel_rfl) (by kernel_rfl) ?_
            change wpStill _ _ wr.drew (fun a' => wpList _ _ _ _ a' wr.drew) _ _
            clear HK
            generalize wr.drew = wq at *
            have l0 := HQ9.out.2.2.1.cell 0; have l1 := HQ9.out.2.2.1.cell 1; have l2 := HQ9.out.2.2.1.cell 2; have l3 := HQ9.out.2.2.1.cell 3; have l4 := HQ9.out.2.2.1.cell 4; have l5 := HQ9.out.2.2.1.cell 5; have l6 := HQ9.out.2.2.1.cell 6; have l7 := HQ9.out.2.2.1.cell 7; have l8 := HQ9.out.2.2.1.cell 8; have l9 := HQ9.out.2.2.1.cell 9
            simp only [List.getElem?_toArray, List.getElem?_cons_zero, List.getElem?_cons_succ] at l0 l1 l2 l3 l4 l5 l6 l7 l8 l9
            simp only [List.take_succ_cons, List.take_zero, List.drop_succ_cons, List.drop_zero]
            repeat still_step
            refine wpStill_nil ?_
            go_wp2_with fail
            refine (refPart_any wq D _ L y (HV.out.keep HQ9.out.2.1 hDB) (by have := HQ9.out.2.1.size; omega) HL.out).mono ?_; rintro e w3 ⟨rfl, hb3⟩
            have HO3 := Lib.hid (own_below HQ9.out.1 hb3)
            have HB3 : Hid (Below B0 w w3) := HQ9.out.2.1.trans (hb3.mono (by have := HQ9.out.2.1.size; omega))
            have HR3 : Hid (Row w3 n0 39 #[.slice A0 k0 c0, .slice A1 k1 c1, .slice (some ⟨b, o, none⟩) k2 c2, .slice A3 k3 c3, .slice A4 k4 c4, .int .i64 t0, .int .i64 t1, .int .i64 t2, .int .i64 t3, .int .i64 t4]) := Below.row hb3 HQ9.out.2.2.1 HQ9.out.2.2.1.lt
            have HP3 := Lib.hid (own_below HQ9.out.2.2.2 hb3)
            clear hb3 HQ9 q0d l0 l1 l2 l3 l4 l5 l6 l7 l8 l9
            generalize partL L.parts y = z at *
            have HOT : Hid (otherP (pn : Int) z = (!(z == (pn : Int)) && decide (0 ≤ z))) := rfl
            cases ho : otherP (pn : Int) z with
            | true =>
              have HSN : Hid (bs0 ++ partsOf L (pn : Int) (ns.take (j + 1)) = zs ++ [z] ∧ ivals zs ++ [.int .i64 z] = ivals (zs ++ [z]) ∧ (zs ++ [z]).length = zs.length + 1) := by
                have h1 := HST.out
                rw [ho, if_pos rfl] at h1
                exact ⟨h1, ivals_snoc' _ _, by simp⟩
              have hoo : (!(z == (pn : Int)) && decide (0 ≤ z)) = true := by rw [← HOT.out]; exact ho
              rw [Bool.and_eq_true] at hoo
              have hz1 : ¬ z = (pn : Int) := by simpa using hoo.1
              have hz2 : 0 ≤ z := by simpa using hoo.2
              clear HST ho hoo HOT
              go_wp2_with (at_builtin; refine wpList_append_own_at _ rfl (.tmp 58) (.tmp 60) 45 rfl B0 3 i3 (.int .i64 0) 1 8 Try.underlying45 hi3 hz30 hz31 hz32 rfl (by decide) _ _ _ rfl (HO3.out.alloc _) ⟨w3.heap.size, 0, none⟩ 1 1 [.int .i64 z] rfl rfl (one_new w3 3 _) (one_cell rfl) (by unfold maxLen; omega) (by omega) (by have := HB3.out.size; simp; omega) ?_)
              intro v7 w7 hown7 hgrow7 _ hat7
              rw [HSN.out.2.1] at hown7
              have hnsl := fun k hk => ((HP3.out.lt k hk).2)
              have hba : Below B0 w (w3.alloc (.cells #[.int .i64 z] 3)) := HB3.out.alloc (by have := HB3.out.size; omega) _
              have HNX : Hid (zs ++ [z] = bs0 ++ partsOf L (pn : Int) (ns.take (j + 1)) ∧ w7.ownsRow B0 3 1 v7 (zs ++ [z]).length (ivals (zs ++ [z])) ∧ Below B0 w w7 ∧ Row w7 n0 39 #[.slice A0 k0 c0, .slice A1 k1 c1, .slice (some ⟨b, o, none⟩) k2 c2, .slice A3 k3 c3, .slice A4 k4 c4, .int .i64 t0, .int .i64 t1, .int .i64 t2, .int .i64 t3, .int .i64 t4] ∧ w7.ownsRow BN 3 1 (.slice (some ⟨bb, oo, none⟩) ns.length c9) ns.length (ivals ns) ∧ ∀ k, (Value.slice (some ⟨bb, oo, none⟩) ns.length c9).ownBlock = some k → v7.ownBlock ≠ some k) := by
                refine ⟨HSN.out.1.symm, by rw [HSN.out.2.2]; exact hown7, hba.grown hgrow7 (by have := hba.size; omega) (fun kk hk => (HO3.out.lt kk hk).1), (HR3.out.alloc _).grown hgrow7 (own_ne HO3.out HR3.out (by decide)), ?_, ?_⟩
                · refine (HP3.out.alloc _).kept hgrow7 ?_
                  right
                  intro e
                  cases hk : (Value.slice (some ⟨bb, oo, none⟩) ns.length c9).ownBlock with
                  | none => simp [Value.ownBlock] at hk
                  | some k => exact HF3.out k hk (by rw [← e]; exact hk)
                · intro k hk e
                  rcases hat7 with h | h
                  · exact HF3.out k hk (by rw [← h]; exact e)
                  · rw [h] at e
                    injection e with e
                    have := hnsl k hk
                    omega
              clear hown7 hgrow7 hat7 hnsl hba
              have hl7 := HSN.out.2.2
              go_wp2_with fail
              go_roundw
              case rel => exact ⟨j + 1, zs ++ [z], by omega, by omega, by go_num, HNX⟩
              case measure => simp [intOf]; omega
            | false =>
              have HSN : Hid (zs = bs0 ++ partsOf L (pn : Int) (ns.take (j + 1))) := by
                have h1 := HST.out
                rw [ho, if_neg (by decide), List.append_nil] at h1
                exact h1.symm
              have hoo : (!(z == (pn : Int)) && decide (0 ≤ z)) = false := by rw [← HOT.out]; exact ho
              clear HST ho HOT
              by_cases hz2 : 0 ≤ z
              · have hz1 : z = (pn : Int) := by
                  rw [decide_eq_true hz2, Bool.and_true] at hoo
                  simpa using hoo
                subst hz1
                clear hoo
                go_wp2_with fail
                go_roundw
                case rel => exact ⟨j + 1, zs, by omega, by omega, by go_num, HSN.out, HO3.out, HB3.out, HR3.out, HP3.out, HF3.out⟩
                case measure => simp [intOf]; omega
              · clear hoo
                go_wp2_with fail
                go_roundw
                case rel => exact ⟨j + 1, zs, by omega, by omega, by go_num, HSN.out, HO3.out, HB3.out, HR3.out, HP3.out, HF3.out⟩
                case measure => simp [intOf]; omega
          · have HJE : Hid (zs = besTo L (pn : Int) (ss.take (i + 1))) := by
              have h1 := HK.out.1
              rw [List.take_of_length_le (by omega)] at h1
              show _ = _
              rw [HS.out]; exact h1
            have HK2 : Hid (wr.ownsRow B0 3 1 (.slice A6 zs.length c6) zs.length (ivals zs) ∧ Below B0 w wr ∧ Row wr n0 39 #[.slice A0 k0 c0, .slice A1 k1 c1, .slice (some ⟨b, o, none⟩) k2 c2, .slice A3 k3 c3, .slice A4 k4 c4, .int .i64 t0, .int .i64 t1, .int .i64 t2, .int .i64 t3, .int .i64 t4]) := ⟨HK.out.2.1, HK.out.2.2.1, HK.out.2.2.2.1⟩
            clear HK
            go_wp2_with fail
            go_roundw
            case rel => exact ⟨i + 1, zs, by omega, by omega, by go_num, HJE.out, HK2.out⟩
            case measure => simp [intOf]; omega
      · have HIE : Hid (bs0 = besTo L (pn : Int) ss) := by
          have h1 := HJ.out.1
          rw [List.take_of_length_le (by omega)] at h1
          exact h1
        have HJ2 := Lib.hid HJ.out
        clear HJ
        go_wp2_with fail
        refine (refRise_any wr _ bs0 (Rd.of_own HJ2.out.2.1) (by omega)).mono ?_; rintro e w8 ⟨v8, rfl, ho8, hb8⟩
        have HO8 : Hid (w8.ownsRow B0 3 1 v8 (riseL bs0).length (ivals (riseL bs0)) ∧ Below B0 w w8) := ⟨own_base ho8 (by have := HJ2.out.2.2.1.size; omega), HJ2.out.2.2.1.trans (hb8.mono (by have := HJ2.out.2.2.1.size; omega))⟩
        clear ho8 hb8
        go_wp2_with fail
        go_ret
        rw [HE.out, ← HIE.out]
        exact ⟨_, rfl, HO8.out.1, HO8.out.2⟩
  · have HE : Hid (besideL L p = []) := by show _ = _; unfold besideL; rw [if_neg (by have := HKK.out; omega)]
    generalize besideL L p = r at *
    go_enter Try.func21, Try.ntmps21
    go_upto_region 1 with (fail)
    obtain ⟨n0, hn0⟩ : ∃ n, n = w.heap.size := ⟨_, rfl⟩
    rw [← hn0] at HRA ⊢
    have HN0 : Hid (n0 = B0) := by have := HB0.out; show _ = _; omega
    clear hn0
    generalize w.alloc (.cells #[.slice A0 k0 c0, .slice A1 k1 c1, .slice A2 k2 c2, .slice A3 k3 c3, .slice A4 k4 c4, .int .i64 t0, .int .i64 t1, .int .i64 t2, .int .i64 t3, .int .i64 t4] 39) = W0 at *
    have l2 := HRA.out.cell 2
    simp only [List.getElem?_toArray, List.getElem?_cons_zero, List.getElem?_cons_succ] at l2
    by_cases h1 : p < 0
    · go_wp2_with fail
      go_ret
      rw [HE.out]
      exact ⟨_, rfl, World.ownsRow_nil _ _ _ _, HBA.out⟩
    · have h2 : (k2 : Int) ≤ p := by omega
      have h3 : 0 ≤ p := by omega
      go_wp2_with fail
      go_ret
      rw [HE.out]
      exact ⟨_, rfl, World.ownsRow_nil _ _ _ _, HBA.out⟩

end Go.Proofs.Ythnjilbfkfekhaa
