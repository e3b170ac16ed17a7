/- Of the document: rules 2, 14. -/
import Derived.Test.YtagkgejdammflaaGreatV17
namespace Go.Proofs.YtagkgejdammflaaGreat
open Go.RowKit Fl
set_option maxRecDepth 100000

set_option maxHeartbeats 8000000 in
theorem holds14 (w : World) (v : Value) (L : Lay) (s : Int) (h : LayV w w.heap.size v L) (hl : L.parts.length ≤ 1000) (hr : ∀ r ∈ L.parts, r.length ≤ 1000) : Calls Tryz.prog 26 #[v, .int .i64 14, .int .i64 s] w (RetL (inOneB L s) w) := by
  have HV0 := Lib.hid h
  obtain ⟨vN, vS, vP, vQ, vR, ps, rfl, hd⟩ := h
  obtain ⟨⟨A0, c0, rfl⟩, ⟨A1, c1, rfl⟩, ⟨A2, c2, rfl⟩, ⟨A3, c3, rfl⟩, ⟨A4, c4, rfl⟩⟩ := hd.slices
  have hbn := (Below.refl w.heap.size w).alloc (Nat.le_refl _) (.cells #[.slice A0 L.nodes.length c0, .slice A1 L.secs.length c1, .slice A2 L.parts.length c2, .slice A3 L.points.length c3, .slice A4 L.routes.length c4, .int .i64 L.speed, .int .i64 L.mute, .int .i64 L.wait, .int .i64 L.cancel, .int .i64 L.stay] 33)
  have HBA := Lib.hid hbn
  have HRA := Lib.hid (Row.new w 33 #[.slice A0 L.nodes.length c0, .slice A1 L.secs.length c1, .slice A2 L.parts.length c2, .slice A3 L.points.length c3, .slice A4 L.routes.length c4, .int .i64 L.speed, .int .i64 L.mute, .int .i64 L.wait, .int .i64 L.cancel, .int .i64 L.stay])
  have HVA := Lib.hid (HV0.out.up hbn)
  have HDA := Lib.hid (hd.mono hbn.size (fun _ hp => hbn.cell hp))
  clear hbn hd HV0
  have HR := Lib.hid hr
  have HP := Lib.hid HDA.out.p
  obtain ⟨B, hB⟩ : ∃ B, inOneB L s = B := ⟨_, rfl⟩
  rw [hB]
  have HB : Hid (decide (timesTo L.parts s L.parts.length = 1) = B) := hB
  clear hB hr HVA HDA
  go_enter Tryz.func26, Tryz.ntmps26
  go_upto_region 1 with (fail)
  obtain ⟨n0, hn0⟩ : ∃ n, n = w.heap.size := ⟨_, rfl⟩
  rw [← hn0] at HRA ⊢
  clear hn0
  generalize w.alloc (.cells #[.slice A0 L.nodes.length c0, .slice A1 L.secs.length c1, .slice A2 L.parts.length c2, .slice A3 L.points.length c3, .slice A4 L.routes.length c4, .int .i64 L.speed, .int .i64 L.mute, .int .i64 L.wait, .int .i64 L.cancel, .int .i64 L.stay] 33) = W0 at *
  have l2 : W0.cell? ⟨n0, 2, none⟩ = some (.slice A2 L.parts.length c2) := by have h := HRA.out.cell 2; simpa using h
  clear HRA
  generalize L.parts = rows at *
  obtain ⟨m, hm⟩ : ∃ m, rows.length = m := ⟨_, rfl⟩
  rw [hm] at hl l2 HP HB
  have HM := Lib.hid hm
  clear hm
  go_wp2_with fail
  go_loopw [18, 19] (fun k t wr => ∃ i : Nat, i ≤ m ∧ t = .int .i64 i ∧ k = .int .i64 ((timesTo rows s i : Nat) : Int) ∧ Hid (timesTo rows s i ≤ i * 1000) ∧ wr = W0) (fun _ t _ => m - (intOf t).toNat)
  case atStart => exact ⟨0, Nat.zero_le _, rfl, rfl, Nat.zero_le _, rfl⟩
  case round =>
    obtain ⟨i, hi, rfl, rfl, HT, hw⟩ := hrel
    have hw2 := hw.symm
    clear hw
    subst hw2
    by_cases hlt : i < m
    · have hir : i < rows.length := by have := HM.out; omega
      obtain ⟨b, o, A', c', hA, hb, q0, hrd⟩ := row_at HP.out i hir
      subst hA
      have HRD := Lib.hid hrd
      have HS := Lib.hid (timesTo_succ (s := s) hir)
      have hrl := HR.out rows[i] (List.getElem_mem _)
      obtain ⟨r, hre⟩ : ∃ r, rows[i] = r := ⟨_, rfl⟩
      rw [hre] at q0 HRD HS hrl
      obtain ⟨T, hT⟩ : ∃ T, timesTo rows s i = T := ⟨_, rfl⟩
      have hTb : T ≤ 1000000 := by have := HT.out; rw [hT] at this; have : i * 1000 ≤ 1000 * 1000 := Nat.mul_le_mul_right _ (by omega); omega
      have HTI : Hid (T ≤ i * 1000) := by have := HT.out; rw [hT] at this; exact this
      have HTE := Lib.hid hT
      rw [hT]
      rw [hT] at HS
      obtain ⟨n, hn⟩ : ∃ n, r.length = n := ⟨_, rfl⟩
      rw [hn] at q0 HRD hrl
      have HN := Lib.hid hn
      have him : (i : Int) < (m : Int) := by omega
      clear hrd hre hT hn HT
      go_wp2_with fail
      go_loopw [18, 20] (fun k t wr => ∃ j : Nat, j ≤ n ∧ t = .int .i64 j ∧ k = .int .i64 ((T + (r.take j).count s : Nat) : Int) ∧ wr = W0) (fun _ t _ => n - (intOf t).toNat)
      case atStart => exact ⟨0, Nat.zero_le _, rfl, by simp, rfl⟩
      case round =>
        obtain ⟨j, hj, rfl, rfl, hw⟩ := hrel
        have hw2 := hw.symm
        clear hw
        subst hw2
        by_cases hjl : j < n
        · have hjr : j < r.length := by have := HN.out; omega
          have HRD2 : Hid (Rd W0 W0.heap.size (.slice A' n c') (ivals r)) := HRD.out.mono (by have := HBA.out.size; omega) (fun _ _ => rfl)
          obtain ⟨b2, o2, hA2, -, u0⟩ := HRD2.out.at (i := j) (u := .int .i64 r[j]) (by simp [ivals, hjr])
          subst hA2
          have HC := Lib.hid (count_succ (s := s) hjr)
          obtain ⟨K, hK⟩ : ∃ K, T + (r.take j).count s = K := ⟨_, rfl⟩
          have hKb : K ≤ 2000000 := by have : (r.take j).count s ≤ (r.take j).length := List.count_le_length; rw [List.length_take] at this; omega
          have HKE := Lib.hid hK
          rw [hK]
          clear hK
          generalize r[j] = z at *
          by_cases hz : z = s
          · have hz2 : (z == s) = true := by simpa using hz
            have HNX : Hid (T + (r.take (j + 1)).count s = K + 1) := by show _ = _; rw [HC.out, if_pos hz]; have := HKE.out; omega
            clear hz
            go_wp2_with fail
            go_roundw
            case rel => exact ⟨j + 1, by omega, by go_num, by rw [HNX.out]; go_num, trivial⟩
            case measure => simp [intOf]; omega
          · have hz2 : (z == s) = false := by simpa using hz
            have HNX : Hid (T + (r.take (j + 1)).count s = K) := by show _ = _; rw [HC.out, if_neg hz]; have := HKE.out; omega
            clear hz
            go_wp2_with fail
            go_roundw
            case rel => exact ⟨j + 1, by omega, by go_num, by rw [HNX.out], trivial⟩
            case measure => simp [intOf]; omega
        · have HNX : Hid (T + (r.take j).count s = timesTo rows s (i + 1) ∧ timesTo rows s (i + 1) ≤ (i + 1) * 1000) := by
            have e : r.take j = r := List.take_of_length_le (by have := HN.out; omega)
            have h1 : r.count s ≤ r.length := List.count_le_length
            have h2 := HS.out
            have h3 := HTI.out
            have h4 := HN.out
            rw [e]
            exact ⟨h2.symm, by rw [h2]; omega⟩
          rw [HNX.out.1]
          go_wp2_with fail
          go_roundw
          case rel => exact ⟨i + 1, by omega, by go_num, rfl, HNX.out.2, trivial⟩
          case measure => simp [intOf]; omega
    · have HIE : Hid (i = m) := by show _ = _; omega
      have HF : Hid ((((timesTo rows s i : Nat) : Int) == 1) = B) := by
        show _ = _
        rw [← HB.out, HIE.out, Bool.eq_iff_iff, beq_iff_eq, decide_eq_true_eq]
        omega
      go_wp2_with fail
      go_ret
      exact ⟨ret_bool HF.out, HBA.out⟩

set_option maxHeartbeats 8000000 in
theorem holds2 (w : World) (v : Value) (L : Lay) (p : Nat) (h : LayV w w.heap.size v L) (hp : p < L.nodes.length) (hl : L.nodes.length ≤ 1000) : Calls Tryz.prog 26 #[v, .int .i64 2, .int .i64 p] w (RetL (ownPlaceB L p hp) w) := by
  have HV0 := Lib.hid h
  obtain ⟨vN, vS, vP, vQ, vR, ps, rfl, hd⟩ := h
  obtain ⟨⟨A0, c0, rfl⟩, ⟨A1, c1, rfl⟩, ⟨A2, c2, rfl⟩, ⟨A3, c3, rfl⟩, ⟨A4, c4, rfl⟩⟩ := hd.slices
  have hbn := (Below.refl w.heap.size w).alloc (Nat.le_refl _) (.cells #[.slice A0 L.nodes.length c0, .slice A1 L.secs.length c1, .slice A2 L.parts.length c2, .slice A3 L.points.length c3, .slice A4 L.routes.length c4, .int .i64 L.speed, .int .i64 L.mute, .int .i64 L.wait, .int .i64 L.cancel, .int .i64 L.stay] 33)
  have HBA := Lib.hid hbn
  have HRA := Lib.hid (Row.new w 33 #[.slice A0 L.nodes.length c0, .slice A1 L.secs.length c1, .slice A2 L.parts.length c2, .slice A3 L.points.length c3, .slice A4 L.routes.length c4, .int .i64 L.speed, .int .i64 L.mute, .int .i64 L.wait, .int .i64 L.cancel, .int .i64 L.stay])
  have HVA := Lib.hid (HV0.out.up hbn)
  have HDA := Lib.hid (hd.mono hbn.size (fun _ hp => hbn.cell hp))
  clear hbn hd HV0
  obtain ⟨nb, no, xp, yp, hA0, hnb, cp, fp1, fp2⟩ := nd_at HDA.out.n HDA.out.f p hp
  subst hA0
  have HN := Lib.hid HDA.out.n; have HF := Lib.hid HDA.out.f
  have HPB : Hid (ownPlaceB L p hp = (placeB L.nodes[p] && !decide (L.nodes[p] ∈ L.nodes.take p))) := rfl
  obtain ⟨B, hB⟩ : ∃ B, ownPlaceB L p hp = B := ⟨_, rfl⟩
  rw [hB]
  rw [hB] at HPB
  have HPP := Lib.hid (fun W => refPlace_any xp yp W)
  rw [metB_fl fp1, metB_fl fp2] at HPP
  have HPX : Hid ((decide (-1000000 ≤ L.nodes[p].1 ∧ L.nodes[p].1 ≤ 1000000) && decide (-1000000 ≤ L.nodes[p].2 ∧ L.nodes[p].2 ≤ 1000000)) = placeB L.nodes[p]) := rfl
  rw [HPX.out] at HPP
  have hpI : (p : Int) < (L.nodes.length : Int) := by omega
  have hp0 : (0 : Int) ≤ (p : Int) := by omega
  have HF1 := Lib.hid fp1; have HF2 := Lib.hid fp2
  have HLP := Lib.hid hp
  clear hB HVA HDA fp1 fp2 hnb
  go_enter Tryz.func26, Tryz.ntmps26
  go_upto_region 1 with (fail)
  obtain ⟨n0, hn0⟩ : ∃ n, n = w.heap.size := ⟨_, rfl⟩
  rw [← hn0] at HRA ⊢
  clear hn0
  generalize w.alloc (.cells #[.slice (some ⟨nb, no, none⟩) L.nodes.length c0, .slice A1 L.secs.length c1, .slice A2 L.parts.length c2, .slice A3 L.points.length c3, .slice A4 L.routes.length c4, .int .i64 L.speed, .int .i64 L.mute, .int .i64 L.wait, .int .i64 L.cancel, .int .i64 L.stay] 33) = W0 at *
  have l0 : W0.cell? ⟨n0, 0, none⟩ = some (.slice (some ⟨nb, no, none⟩) L.nodes.length c0) := by have h := HRA.out.cell 0; simpa using h
  clear HRA
  go_wp2_with fail
  go_loopw [7] (fun t wr => ∃ j : Nat, j ≤ p ∧ t = .int .i64 j ∧ Hid (∀ j' (h1 : j' < L.nodes.length), j' < j → L.nodes[j'] ≠ L.nodes[p]) ∧ ∃ n, wr = W0.drewN n) (fun t _ => p - (intOf t).toNat)
  case atStart => exact ⟨0, Nat.zero_le _, rfl, fun j' _ h => by omega, 0, rfl⟩
  case round =>
    obtain ⟨j, hj, rfl, HJ, dn, rfl⟩ := hrel
    by_cases hlt : j < p
    · have hjl : j < L.nodes.length := by omega
      obtain ⟨nb', no', xj, yj, hA0', hnb', cj, fj1, fj2⟩ := nd_at HN.out HF.out j hjl
      injection hA0' with hA0'
      injection hA0' with z1 z2
      subst z1 z2
      have e1 := eq_fact fj1 HF1.out
      have e2 := eq_fact fj2 HF2.out
      have hjI : (j : Int) < (L.nodes.length : Int) := by omega
      have HEQ : Hid (L.nodes[j] = L.nodes[p] → B = false) := fun e => by
        rw [HPB.out]
        have hm : L.nodes[p] ∈ L.nodes.take p := by
          rw [← e]
          exact List.mem_iff_getElem.2 ⟨j, by simp; omega, by simp⟩
        simp
        intro _
        exact hm
      have HNE : Hid (L.nodes[j] ≠ L.nodes[p] → ∀ j' (h1 : j' < L.nodes.length), j' < j + 1 → L.nodes[j'] ≠ L.nodes[p]) := fun e j' h1 h2 => by
        rcases Nat.lt_or_ge j' j with c | c
        · exact HJ.out j' h1 c
        · obtain rfl : j' = j := by omega
          exact e
      generalize L.nodes[j] = z at *
      generalize L.nodes[p] = y at *
      obtain ⟨zx, zy⟩ := z
      obtain ⟨yx, yy⟩ := y
      simp only at e1 e2
      clear fj1 fj2 hnb'
      by_cases c1 : zx = yx
      · rw [decide_eq_true c1] at e1
        by_cases c2 : zy = yy
        · rw [decide_eq_true c2] at e2
          have HFF := Lib.hid (HEQ.out (by rw [c1, c2]))
          clear c1 c2
          go_upto_region 8 with (fail)
          go_quiet (fail)
          go_wp2_with fail
          go_ret
          exact ⟨ret_bool HFF.out.symm, below_drewN HBA.out _⟩
        · rw [decide_eq_false c2] at e2
          have HFF := Lib.hid (HNE.out (fun h => c2 (by injection h)))
          clear c1 c2
          go_upto_region 8 with (fail)
          go_quiet (fail)
          go_wp2_with fail
          go_roundw
          case rel => exact ⟨j + 1, by omega, by go_num, HFF, _, rfl⟩
          case measure => simp [intOf]; omega
      · rw [decide_eq_false c1] at e1
        have HFF := Lib.hid (HNE.out (fun h => c1 (by injection h)))
        clear c1
        go_upto_region 8 with (fail)
        go_quiet (fail)
        go_wp2_with fail
        go_roundw
        case rel => exact ⟨j + 1, by omega, by go_num, HFF, _, rfl⟩
        case measure => simp [intOf]; omega
    · have HFF : Hid (placeB L.nodes[p] = B) := by
        show placeB L.nodes[p] = B
        rw [HPB.out]
        have hm : ¬ L.nodes[p] ∈ L.nodes.take p := fun hm => by
          obtain ⟨j', h1, h2⟩ := List.mem_iff_getElem.1 hm
          simp only [List.length_take] at h1
          simp only [List.getElem_take] at h2
          exact HJ.out j' (by omega) (by omega) h2
        cases placeB L.nodes[p]
        · rfl
        · simp; exact hm
      go_wp2_with fail
      refine (HPP.out _).mono ?_; rintro e w' ⟨rfl, rfl⟩
      go_wp2_with fail
      go_ret
      exact ⟨ret_bool HFF.out, below_drewN HBA.out _⟩


end Go.Proofs.YtagkgejdammflaaGreat
