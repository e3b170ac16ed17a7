/- Contracts: the document's Near, Part, Len. -/
import Derived.Test.YtpipkbdkkbcooaaR8
namespace Go.Proofs.Ytpipkbdkkbcooaa
open Go.RowKit Fl
set_option maxRecDepth 100000

set_option maxHeartbeats 8000000 in
theorem refNear_any (w : World) (D : Nat) (v : Value) (L : Lay) (s : Int) (h : LayV w D v L) (hD : D ≤ w.heap.size) (hL : Fits L) :
    Calls Try.prog 30 #[v, .int .i64 s] w (RetOwn w.heap.size (nearL L s) w) := by
  have HV := Lib.hid h
  obtain ⟨A0, k0, c0, A1, k1, c1, A2, k2, c2, A3, k3, c3, A4, k4, c4, t0, t1, t2, t3, t4, rfl, hk0, hk1, hk2, hk3⟩ := h.lens
  have HKK : Hid (L.secs.length = k1 ∧ L.parts.length = k2) := ⟨hk1, hk2⟩
  have HBA := Lib.hid ((Below.refl w.heap.size w).alloc (Nat.le_refl _) (.cells #[.slice A0 k0 c0, .slice A1 k1 c1, .slice A2 k2 c2, .slice A3 k3 c3, .slice A4 k4 c4, .int .i64 t0, .int .i64 t1, .int .i64 t2, .int .i64 t3, .int .i64 t4] 35))
  have HRA := Lib.hid (Row.new w 35 #[.slice A0 k0 c0, .slice A1 k1 c1, .slice A2 k2 c2, .slice A3 k3 c3, .slice A4 k4 c4, .int .i64 t0, .int .i64 t1, .int .i64 t2, .int .i64 t3, .int .i64 t4])
  have HL := Lib.hid hL
  clear hL hk0 hk1 hk2 hk3
  obtain ⟨B0, hB0⟩ : ∃ n, n = w.heap.size := ⟨_, rfl⟩
  rw [← hB0] at HBA ⊢
  have HB0 := Lib.hid hB0
  have hB1 : B0 ≤ w.heap.size := by omega
  have hDB : D ≤ B0 := by omega
  clear hB0 hD
  have HE : Hid (nearL L s = riseL (nearTo L s 2)) := rfl
  generalize nearL L s = r at *
  obtain ⟨i3, hi3, hz30, hz31, hz32⟩ := info_parts Try.info3n
  go_enter Try.func30, Try.ntmps30
  go_upto_region 2 with (fail)
  obtain ⟨n0, hn0⟩ : ∃ n, n = w.heap.size := ⟨_, rfl⟩
  rw [← hn0] at HRA ⊢
  have HN0 : Hid (n0 = B0) := by have := HB0.out; show _ = _; omega
  clear hn0
  generalize w.alloc (.cells #[.slice A0 k0 c0, .slice A1 k1 c1, .slice A2 k2 c2, .slice A3 k3 c3, .slice A4 k4 c4, .int .i64 t0, .int .i64 t1, .int .i64 t2, .int .i64 t3, .int .i64 t4] 35) = W0 at *
  go_wp2_with fail
  go_loopw [5, 6] (fun t k wr => ∃ (i : Nat) (ns : List Int), i ≤ 2 ∧ ns.length ≤ 2 * i ∧ k = .int .i64 i ∧ Hid (ns = nearTo L s i ∧ wr.ownsRow B0 3 1 t ns.length (ivals ns) ∧ Below B0 w wr ∧ Row wr n0 35 #[.slice A0 k0 c0, .slice A1 k1 c1, .slice A2 k2 c2, .slice A3 k3 c3, .slice A4 k4 c4, .int .i64 t0, .int .i64 t1, .int .i64 t2, .int .i64 t3, .int .i64 t4])) (fun _ k _ => 2 - (intOf k).toNat)
  case atStart => exact ⟨0, [], Nat.zero_le _, Nat.zero_le _, rfl, rfl, World.ownsRow_nil _ _ _ _, HBA.out, HRA.out⟩
  case round =>
    obtain ⟨i, ns, hi, hnl, rfl, HJ⟩ := hrel
    obtain ⟨A5, c5, hv5⟩ := own_slice HJ.out.2.1
    subst hv5
    by_cases hlt : i < 2
    · have HS : Hid (nearTo L s (i + 1) = ns ++ (aroundL L (s, (i : Int))).map (·.1)) := by show _ = _; rw [HJ.out.1]; rfl
      have hal := aroundL_le L (s, (i : Int))
      have l0 := HJ.out.2.2.2.cell 0; have l1 := HJ.out.2.2.2.cell 1; have l2 := HJ.out.2.2.2.cell 2; have l3 := HJ.out.2.2.2.cell 3; have l4 := HJ.out.2.2.2.cell 4; have l5 := HJ.out.2.2.2.cell 5; have l6 := HJ.out.2.2.2.cell 6; have l7 := HJ.out.2.2.2.cell 7; have l8 := HJ.out.2.2.2.cell 8; have l9 := HJ.out.2.2.2.cell 9
      simp only [List.getElem?_toArray, List.getElem?_cons_zero, List.getElem?_cons_succ] at l0 l1 l2 l3 l4 l5 l6 l7 l8 l9
      obtain ⟨wJ, hwJ⟩ : ∃ x, x = wr := ⟨_, rfl⟩
      subst hwJ
      go_wp2_with fail
      refine (refAround_any wJ D _ L s (i : Int) (HV.out.keep HJ.out.2.2.1 hDB) (by have := HJ.out.2.2.1.size; omega) HL.out).mono ?_; rintro e w1 ⟨v1, rfl, hp1, hb1⟩
      have HO1 : Hid (w1.ownsRow B0 3 1 (.slice A5 ns.length c5) ns.length (ivals ns) ∧ Below B0 w w1 ∧ Row w1 n0 35 #[.slice A0 k0 c0, .slice A1 k1 c1, .slice A2 k2 c2, .slice A3 k3 c3, .slice A4 k4 c4, .int .i64 t0, .int .i64 t1, .int .i64 t2, .int .i64 t3, .int .i64 t4]) := ⟨own_below HJ.out.2.1 hb1, HJ.out.2.2.1.trans (hb1.mono (by have := HJ.out.2.2.1.size; omega)), Below.row hb1 HJ.out.2.2.2 HJ.out.2.2.2.lt⟩
      have HP1 := Lib.hid hp1
      obtain ⟨A9, c9, hv1, hpp⟩ := id hp1
      subst hv1
      clear hb1 hp1 hpp HJ l0 l1 l2 l3 l4 l5 l6 l7 l8 l9
      generalize aroundL L (s, (i : Int)) = ys at *
      obtain ⟨wM, hwM⟩ : ∃ x, x = w1 := ⟨_, rfl⟩
      subst hwM
      go_wp2_with fail
      go_loopw [5, 8] (fun t k wr => ∃ (j : Nat) (zs : List Int), j ≤ ys.length ∧ zs.length ≤ ns.length + j ∧ k = .int .i64 j ∧ Hid (zs = ns ++ (ys.take j).map (·.1) ∧ wr.ownsRow B0 3 1 t zs.length (ivals zs) ∧ Below B0 w wr ∧ Row wr n0 35 #[.slice A0 k0 c0, .slice A1 k1 c1, .slice A2 k2 c2, .slice A3 k3 c3, .slice A4 k4 c4, .int .i64 t0, .int .i64 t1, .int .i64 t2, .int .i64 t3, .int .i64 t4] ∧ Prs wr wM.heap.size (.slice A9 ys.length c9) ys ∧ wM.heap.size ≤ wr.heap.size)) (fun _ k _ => ys.length - (intOf k).toNat)
      case atStart => exact ⟨0, ns, Nat.zero_le _, Nat.le_refl _, rfl, by simp, HO1.out.1, HO1.out.2.1, HO1.out.2.2, HP1.out, Nat.le_refl _⟩
      case round =>
        obtain ⟨j, zs, hj, hzl, rfl, HK⟩ := hrel
        obtain ⟨A6, c6, hv6⟩ := own_slice HK.out.2.1
        subst hv6
        by_cases hlt2 : j < ys.length
        · have HSN : Hid (ns ++ (ys.take (j + 1)).map (·.1) = zs ++ [ys[j].1] ∧ ivals zs ++ [.int .i64 ys[j].1] = ivals (zs ++ [ys[j].1]) ∧ (zs ++ [ys[j].1]).length = zs.length + 1) := ⟨by rw [HK.out.1, List.append_assoc, firsts_take ys j hlt2], ivals_snoc' _ _, by simp⟩
          obtain ⟨b, o, hA, hbD, q0, q1⟩ := HK.out.2.2.2.2.1.at j hlt2
          subst hA
          generalize ys[j] = z at *
          obtain ⟨x, y⟩ := z
          simp only at q0 q1 HSN
          go_wp2_with (at_builtin; refine wpList_append_own _ rfl (.tmp 24) (.tmp 30) 45 rfl B0 3 i3 (.int .i64 0) 1 8 Try.underlying45 hi3 hz30 hz31 hz32 rfl (by decide) _ _ _ rfl (HK.out.2.1.alloc _) ⟨wr.heap.size, 0, none⟩ 1 1 [.int .i64 x] rfl rfl (one_new wr 3 _) (one_cell rfl) (by unfold maxLen; omega) (by omega) (by have := HK.out.2.2.1.size; simp; omega) ?_)
          intro v7 w7 hown7 hgrow7 _
          rw [HSN.out.2.1] at hown7
          have hba : Below B0 w (wr.alloc (.cells #[.int .i64 x] 3)) := HK.out.2.2.1.alloc (by have := HK.out.2.2.1.size; omega) _
          have HNX : Hid (zs ++ [x] = ns ++ (ys.take (j + 1)).map (·.1) ∧ w7.ownsRow B0 3 1 v7 (zs ++ [x]).length (ivals (zs ++ [x])) ∧ Below B0 w w7 ∧ Row w7 n0 35 #[.slice A0 k0 c0, .slice A1 k1 c1, .slice A2 k2 c2, .slice A3 k3 c3, .slice A4 k4 c4, .int .i64 t0, .int .i64 t1, .int .i64 t2, .int .i64 t3, .int .i64 t4] ∧ Prs w7 wM.heap.size (.slice (some ⟨b, o, none⟩) ys.length c9) ys ∧ wM.heap.size ≤ w7.heap.size) := by
            refine ⟨HSN.out.1.symm, by rw [HSN.out.2.2]; exact hown7, hba.grown hgrow7 (by have := hba.size; omega) (fun k hk => (HK.out.2.1.lt k hk).1), (HK.out.2.2.2.1.alloc _).grown hgrow7 (own_ne HK.out.2.1 HK.out.2.2.2.1 (by decide)), ?_, ?_⟩
            · exact (HK.out.2.2.2.2.1.mono (Nat.le_refl _) (fun kk hk => ((Below.refl wr.heap.size wr).alloc (Nat.le_refl _) (.cells #[.int .i64 x] 3)).block kk (Nat.lt_of_lt_of_le hk HK.out.2.2.2.2.2))).grown (HK.out.2.1.alloc _) (by decide) hgrow7
            · have h1 := hgrow7.size; have h2 := HK.out.2.2.2.2.2
              simp at h1; omega
          clear hown7 hgrow7 q0 q1 hba
          have hl7 := HSN.out.2.2
          go_wp2_with fail
          go_roundw
          case rel => exact ⟨j + 1, zs ++ [x], by omega, by omega, by go_num, HNX⟩
          case measure => simp [intOf]; omega
        · have HJE : Hid (zs = nearTo L s (i + 1)) := by
            have h1 := HK.out.1
            rw [List.take_of_length_le (by omega)] at h1
            show _ = _
            rw [HS.out]; exact h1
          have HK2 : Hid (wr.ownsRow B0 3 1 (.slice A6 zs.length c6) zs.length (ivals zs) ∧ Below B0 w wr ∧ Row wr n0 35 #[.slice A0 k0 c0, .slice A1 k1 c1, .slice A2 k2 c2, .slice A3 k3 c3, .slice A4 k4 c4, .int .i64 t0, .int .i64 t1, .int .i64 t2, .int .i64 t3, .int .i64 t4]) := ⟨HK.out.2.1, HK.out.2.2.1, HK.out.2.2.2.1⟩
          clear HK
          go_wp2_with fail
          go_roundw
          case rel => exact ⟨i + 1, zs, by omega, by omega, by go_num, HJE.out, HK2.out⟩
          case measure => simp [intOf]; omega
    · have HIE : Hid (ns = nearTo L s 2) := by have h1 := HJ.out.1; have e : i = 2 := by omega
                                               rw [e] at h1; exact h1
      have HJ2 := Lib.hid HJ.out
      clear HJ
      go_wp2_with fail
      refine (refRise_any wr _ ns (Rd.of_own HJ2.out.2.1) (by omega)).mono ?_; rintro e w8 ⟨v8, rfl, ho8, hb8⟩
      have HO8 : Hid (w8.ownsRow B0 3 1 v8 (riseL ns).length (ivals (riseL ns)) ∧ Below B0 w w8) := ⟨own_base ho8 (by have := HJ2.out.2.2.1.size; omega), HJ2.out.2.2.1.trans (hb8.mono (by have := HJ2.out.2.2.1.size; omega))⟩
      clear ho8 hb8
      go_wp2_with fail
      go_ret
      rw [HE.out, ← HIE.out]
      exact ⟨_, rfl, HO8.out.1, HO8.out.2⟩

set_option maxHeartbeats 4000000 in
theorem refPart_any (w : World) (D : Nat) (v : Value) (L : Lay) (n : Int) (h : LayV w D v L) (hD : D ≤ w.heap.size) (hL : Fits L) :
    Calls Try.prog 31 #[v, .int .i64 n] w fun e w' => e = .returned (.int .i64 (partL L.parts n)) ∧ Below w.heap.size w w' := by
  have HV := Lib.hid h
  obtain ⟨A0, k0, c0, A1, k1, c1, A2, k2, c2, A3, k3, c3, A4, k4, c4, t0, t1, t2, t3, t4, rfl, hk0, hk1, hk2, hk3⟩ := h.lens
  have HKK : Hid (L.secs.length = k1 ∧ L.parts.length = k2) := ⟨hk1, hk2⟩
  have HBA := Lib.hid ((Below.refl w.heap.size w).alloc (Nat.le_refl _) (.cells #[.slice A0 k0 c0, .slice A1 k1 c1, .slice A2 k2 c2, .slice A3 k3 c3, .slice A4 k4 c4, .int .i64 t0, .int .i64 t1, .int .i64 t2, .int .i64 t3, .int .i64 t4] 35))
  have HRA := Lib.hid (Row.new w 35 #[.slice A0 k0 c0, .slice A1 k1 c1, .slice A2 k2 c2, .slice A3 k3 c3, .slice A4 k4 c4, .int .i64 t0, .int .i64 t1, .int .i64 t2, .int .i64 t3, .int .i64 t4])
  have HL := Lib.hid hL
  clear hL hk0 hk1 hk2 hk3
  obtain ⟨B0, hB0⟩ : ∃ n, n = w.heap.size := ⟨_, rfl⟩
  rw [← hB0] at HBA ⊢
  have HB0 := Lib.hid hB0
  have hB1 : B0 ≤ w.heap.size := by omega
  have hDB : D ≤ B0 := by omega
  clear hB0 hD
  have hpl : k2 ≤ 100 := by have := HKK.out; have := HL.out.p; omega
  obtain ⟨r, hr⟩ : ∃ r, partL L.parts n = r := ⟨_, rfl⟩
  rw [hr]
  have HR := Lib.hid hr
  clear hr
  go_enter Try.func31, Try.ntmps31
  go_upto_region 1 with (fail)
  obtain ⟨n0, hn0⟩ : ∃ n, n = w.heap.size := ⟨_, rfl⟩
  rw [← hn0] at HRA ⊢
  have HN0 : Hid (n0 = B0) := by have := HB0.out; show _ = _; omega
  clear hn0
  generalize w.alloc (.cells #[.slice A0 k0 c0, .slice A1 k1 c1, .slice A2 k2 c2, .slice A3 k3 c3, .slice A4 k4 c4, .int .i64 t0, .int .i64 t1, .int .i64 t2, .int .i64 t3, .int .i64 t4] 35) = W0 at *
  have HVA := Lib.hid (HV.out.keep HBA.out hDB)
  have l2 := HRA.out.cell 2
  simp only [List.getElem?_toArray, List.getElem?_cons_zero, List.getElem?_cons_succ] at l2
  go_wp2_with fail
  go_loop [5] (fun k => ∃ i : Nat, i ≤ k2 ∧ k = .int .i64 i ∧ Hid (∀ j (hj : j < L.parts.length), j < i → L.parts[j].contains n = false)) (fun k => k2 - (intOf k).toNat)
  case atStart => exact ⟨0, Nat.zero_le _, rfl, fun j _ hj => absurd hj (by omega)⟩
  case round =>
    obtain ⟨i, hi, rfl, HJ⟩ := hrel
    by_cases hlt : i < k2
    · have him : i < L.parts.length := by have := HKK.out; omega
      obtain ⟨b, o, u, hA, e0, hru⟩ := HVA.out.part_at i him
      have HE := Lib.hid hru
      have hle := HL.out.r L.parts[i] (List.getElem_mem _)
      have HQ1 : Hid (L.parts[i].contains n = true → r = (i : Int)) := fun e => by rw [← HR.out]; exact partL_at him e HJ.out
      have HQ2 : Hid (L.parts[i].contains n = false → ∀ j (hj : j < L.parts.length), j < i + 1 → L.parts[j].contains n = false) := fun e j hj hji => by
        rcases Nat.lt_or_ge j i with c | c
        · exact HJ.out j hj c
        · obtain rfl : j = i := by omega
          exact e
      clear hru
      generalize L.parts[i] = z at *
      subst hA
      go_wp2_with fail
      refine (refHas_any W0 D u z n HE.out (by omega)).mono ?_; rintro e w' ⟨rfl, rfl⟩
      cases hz : z.contains n with
      | true =>
        have HF := Lib.hid (HQ1.out hz)
        clear HQ1 HQ2 hz
        go_wp2_with fail
        go_ret
        exact ⟨ret_int HF.out.symm, HBA.out⟩
      | false =>
        have HN2 := Lib.hid (HQ2.out hz)
        clear HQ1 HQ2 hz
        go_wp2_with fail
        go_round
        case rel => exact ⟨i + 1, by omega, by go_num, HN2⟩
        case measure => simp [intOf]; omega
    · have HF : Hid (r = -1) := by
        show _ = _
        rw [← HR.out]
        exact partL_none fun j hj => HJ.out j hj (by have := HKK.out; omega)
      go_wp2_with fail
      go_ret
      exact ⟨ret_int HF.out.symm, HBA.out⟩

set_option maxHeartbeats 2000000 in
theorem refLen_any (w : World) (D : Nat) (v : Value) (L : Lay) (s : Int) (h : LayV w D v L) (hD : D ≤ w.heap.size) (hL : Fits L) :
    Calls Try.prog 33 #[v, .int .i64 s] w fun e w' => e = .returned (.int .i64 (lenL L.secs s)) ∧ Below w.heap.size w w' := by
  have HV := Lib.hid h
  obtain ⟨A0, k0, c0, A1, k1, c1, A2, k2, c2, A3, k3, c3, A4, k4, c4, t0, t1, t2, t3, t4, rfl, hk0, hk1, hk2, hk3⟩ := h.lens
  have HKK : Hid (L.secs.length = k1 ∧ L.parts.length = k2) := ⟨hk1, hk2⟩
  have HBA := Lib.hid ((Below.refl w.heap.size w).alloc (Nat.le_refl _) (.cells #[.slice A0 k0 c0, .slice A1 k1 c1, .slice A2 k2 c2, .slice A3 k3 c3, .slice A4 k4 c4, .int .i64 t0, .int .i64 t1, .int .i64 t2, .int .i64 t3, .int .i64 t4] 35))
  have HRA := Lib.hid (Row.new w 35 #[.slice A0 k0 c0, .slice A1 k1 c1, .slice A2 k2 c2, .slice A3 k3 c3, .slice A4 k4 c4, .int .i64 t0, .int .i64 t1, .int .i64 t2, .int .i64 t3, .int .i64 t4])
  have HL := Lib.hid hL
  clear hL hk0 hk1 hk2 hk3
  obtain ⟨B0, hB0⟩ : ∃ n, n = w.heap.size := ⟨_, rfl⟩
  rw [← hB0] at HBA ⊢
  have HB0 := Lib.hid hB0
  have hB1 : B0 ≤ w.heap.size := by omega
  have hDB : D ≤ B0 := by omega
  clear hB0 hD
  have hsl : k1 ≤ 100 := by have := HKK.out; have := HL.out.s; omega
  by_cases hs : 0 ≤ s ∧ s < (k1 : Int)
  · obtain ⟨i, rfl⟩ := Int.eq_ofNat_of_zero_le hs.1
    have him : i < L.secs.length := by have := HKK.out; omega
    have HE := Lib.hid (lenL_at L.secs i him)
    generalize lenL L.secs (i : Int) = r at *
    go_enter Try.func33, Try.ntmps33
    go_upto_region 1 with (fail)
    obtain ⟨n0, hn0⟩ : ∃ n, n = w.heap.size := ⟨_, rfl⟩
    rw [← hn0] at HRA ⊢
    have HN0 : Hid (n0 = B0) := by have := HB0.out; show _ = _; omega
    clear hn0
    generalize w.alloc (.cells #[.slice A0 k0 c0, .slice A1 k1 c1, .slice A2 k2 c2, .slice A3 k3 c3, .slice A4 k4 c4, .int .i64 t0, .int .i64 t1, .int .i64 t2, .int .i64 t3, .int .i64 t4] 35) = W0 at *
    have HVA := Lib.hid (HV.out.keep HBA.out hDB)
    obtain ⟨b, o, hA, q0⟩ := HVA.out.sec_at i him
    rw [← HE.out] at q0
    have l1 := HRA.out.cell 1
    simp only [List.getElem?_toArray, List.getElem?_cons_zero, List.getElem?_cons_succ] at l1
    subst hA
    have h1 : ¬ (i : Int) < 0 := by omega
    have h2 : ¬ (k1 : Int) ≤ (i : Int) := by omega
    have h3 : ¬ k1 ≤ i := by omega
    have h4 : i < k1 := by omega
    clear HE hs
    go_wp2_with fail
    go_ret
    exact ⟨rfl, HBA.out⟩
  · have HE : Hid (lenL L.secs s = 0) := by
      show _ = _
      unfold lenL hasB
      rw [if_neg]
      simp only [Bool.and_eq_true, decide_eq_true_eq]
      have := HKK.out
      omega
    generalize lenL L.secs s = r at *
    go_enter Try.func33, Try.ntmps33
    go_upto_region 1 with (fail)
    obtain ⟨n0, hn0⟩ : ∃ n, n = w.heap.size := ⟨_, rfl⟩
    rw [← hn0] at HRA ⊢
    have HN0 : Hid (n0 = B0) := by have := HB0.out; show _ = _; omega
    clear hn0
    generalize w.alloc (.cells #[.slice A0 k0 c0, .slice A1 k1 c1, .slice A2 k2 c2, .slice A3 k3 c3, .slice A4 k4 c4, .int .i64 t0, .int .i64 t1, .int .i64 t2, .int .i64 t3, .int .i64 t4] 35) = W0 at *
    have l1 := HRA.out.cell 1
    simp only [List.getElem?_toArray, List.getElem?_cons_zero, List.getElem?_cons_succ] at l1
    by_cases h1 : s < 0
    · go_wp2_with fail
      go_ret
      exact ⟨ret_int HE.out.symm, HBA.out⟩
    · have h2 : (k1 : Int) ≤ s := by omega
      have h3 : 0 ≤ s := by omega
      go_wp2_with fail
      go_ret
      exact ⟨ret_int HE.out.symm, HBA.out⟩

end Go.Proofs.Ytpipkbdkkbcooaa
