/- Contracts: the document's Beside; the law's same. -/
import Derived.Test.YtpipkbdkkbcooaaR9
namespace Go.Proofs.Ytpipkbdkkbcooaa
open Go.RowKit Fl
set_option maxRecDepth 100000

set_option maxHeartbeats 8000000 in
theorem refBeside_any (w : World) (D : Nat) (v : Value) (L : Lay) (p : Int) (h : LayV w D v L) (hD : D ≤ w.heap.size) (hL : Fits L) :
    Calls Try.prog 32 #[v, .int .i64 p] w (RetOwn w.heap.size (besideL L p) w) := by
  have HV := Lib.hid h
  obtain ⟨A0, k0, c0, A1, k1, c1, A2, k2, c2, A3, k3, c3, A4, k4, c4, t0, t1, t2, t3, t4, rfl, hk0, hk1, hk2, hk3⟩ := h.lens
  have HKK : Hid (L.secs.length = k1 ∧ L.parts.length = k2) := ⟨hk1, hk2⟩
  have HBA := Lib.hid ((Below.refl w.heap.size w).alloc (Nat.le_refl _) (.cells #[.slice A0 k0 c0, .slice A1 k1 c1, .slice A2 k2 c2, .slice A3 k3 c3, .slice A4 k4 c4, .int .i64 t0, .int .i64 t1, .int .i64 t2, .int .i64 t3, .int .i64 t4] 35))
  have HRA := Lib.hid (Row.new w 35 #[.slice A0 k0 c0, .slice A1 k1 c1, .slice A2 k2 c2, .slice A3 k3 c3, .slice A4 k4 c4, .int .i64 t0, .int .i64 t1, .int .i64 t2, .int .i64 t3, .int .i64 t4])
  have HL := Lib.hid hL
  clear hL hk0 hk1 hk2 hk3
  obtain ⟨B0, hB0⟩ : ∃ n, n = w.heap.size := ⟨_, rfl⟩
  rw [← hB0] at HBA ⊢
  have HB0 := Lib.hid hB0
  have hB1 : B0 ≤ w.heap.size := by omega
  have hDB : D ≤ B0 := by omega
  clear hB0 hD
  have hpl : k2 ≤ 100 := by have := HKK.out; have := HL.out.p; omega
  obtain ⟨i3, hi3, hz30, hz31, hz32⟩ := info_parts Try.info3n
  by_cases hp : 0 ≤ p ∧ p < (k2 : Int)
  · obtain ⟨pn, rfl⟩ := Int.eq_ofNat_of_zero_le hp.1
    have hpn : pn < L.parts.length := by have := HKK.out; omega
    have HE : Hid (besideL L (pn : Int) = riseL (besTo L (pn : Int) L.parts[pn])) := by
      show _ = _
      unfold besideL
      rw [if_pos (by have := HKK.out; omega)]
      simp [List.getD, hpn]
    generalize besideL L (pn : Int) = r at *
    obtain ⟨b, o, u, hA2, e0, hru⟩ := HV.out.part_at pn hpn
    have HBL : Hid (b < B0) := by have h1 : b < w.heap.size := cell_lt e0; have := HB0.out; show b < B0; omega
    have HE0 := Lib.hid e0
    have hrl := HL.out.r L.parts[pn] (List.getElem_mem _)
    have HV1 := Lib.hid hru
    generalize L.parts[pn] = ss at *
    obtain ⟨As, cs, rfl, -, -⟩ := id HV1.out
    have hsl : (ivals ss).length = ss.length := by simp [ivals]
    rw [hsl] at HV1 HE0
    subst hA2
    have hpk : pn < k2 := by have := HKK.out; omega
    have hmp : ¬ k2 ≤ pn := by omega
    have hmi : ¬ (k2 : Int) ≤ (pn : Int) := by omega
    have hp0 : ¬ (pn : Int) < 0 := by omega
    clear hp e0 hru hsl hpn
    go_enter Try.func32, Try.ntmps32
    go_upto_region 1 with (fail)
    obtain ⟨n0, hn0⟩ : ∃ n, n = w.heap.size := ⟨_, rfl⟩
    rw [← hn0] at HRA ⊢
    have HN0 : Hid (n0 = B0) := by have := HB0.out; show _ = _; omega
    clear hn0
    generalize w.alloc (.cells #[.slice A0 k0 c0, .slice A1 k1 c1, .slice (some ⟨b, o, none⟩) k2 c2, .slice A3 k3 c3, .slice A4 k4 c4, .int .i64 t0, .int .i64 t1, .int .i64 t2, .int .i64 t3, .int .i64 t4] 35) = W0 at *
    have l2 := HRA.out.cell 2
    simp only [List.getElem?_toArray, List.getElem?_cons_zero, List.getElem?_cons_succ] at l2
    go_upto_region 4 with (fail)
    clear l2
    go_wp2_with fail
    go_loopw [5, 6] (fun t k wr => ∃ (i : Nat) (bs0 : List Int), i ≤ ss.length ∧ bs0.length ≤ 4 * i ∧ k = .int .i64 i ∧ Hid (bs0 = besTo L (pn : Int) (ss.take i) ∧ wr.ownsRow B0 3 1 t bs0.length (ivals bs0) ∧ Below B0 w wr ∧ Row wr n0 35 #[.slice A0 k0 c0, .slice A1 k1 c1, .slice (some ⟨b, o, none⟩) k2 c2, .slice A3 k3 c3, .slice A4 k4 c4, .int .i64 t0, .int .i64 t1, .int .i64 t2, .int .i64 t3, .int .i64 t4])) (fun _ k _ => ss.length - (intOf k).toNat)
    case atStart => exact ⟨0, [], Nat.zero_le _, Nat.zero_le _, rfl, rfl, World.ownsRow_nil _ _ _ _, HBA.out, HRA.out⟩
    case round =>
      obtain ⟨i, bs0, hi, hnl, rfl, HJ⟩ := hrel
      obtain ⟨A5, c5, hv5⟩ := own_slice HJ.out.2.1
      subst hv5
      have l2 := HJ.out.2.2.2.cell 2
      simp only [List.getElem?_toArray, List.getElem?_cons_zero, List.getElem?_cons_succ] at l2
      have m0 : wr.cell? ⟨b, o + pn, none⟩ = some (.slice As ss.length cs) := (HJ.out.2.2.1.cell (p := ⟨b, o + pn, none⟩) HBL.out).trans HE0.out
      by_cases hlt : i < ss.length
      · have HS : Hid (besTo L (pn : Int) (ss.take (i + 1)) = bs0 ++ partsOf L (pn : Int) (nearL L ss[i])) := by show _ = _; rw [besTo_take L (pn : Int) ss i hlt, HJ.out.1]
        obtain ⟨bs, os, hA, hbs, q0⟩ := HV1.out.at (i := i) (u := .int .i64 ss[i]) (by simp [ivals, hlt])
        subst hA
        generalize ss[i] = x at *
        have hal := nearL_le L x
        have HQ7 : Hid (wr.drew.ownsRow B0 3 1 (.slice A5 bs0.length c5) bs0.length (ivals bs0) ∧ Below B0 w wr.drew ∧ Row wr.drew n0 35 #[.slice A0 k0 c0, .slice A1 k1 c1, .slice (some ⟨b, o, none⟩) k2 c2, .slice A3 k3 c3, .slice A4 k4 c4, .int .i64 t0, .int .i64 t1, .int .i64 t2, .int .i64 t3, .int .i64 t4]) := ⟨HJ.out.2.1, HJ.out.2.2.1.drew, HJ.out.2.2.2⟩
        have m0d : wr.drew.cell? ⟨b, o + pn, none⟩ = some (.slice (some ⟨bs, os, none⟩) ss.length cs) := m0
        have q0d : wr.drew.cell? ⟨bs, os + i, none⟩ = some (.int .i64 x) := (HJ.out.2.2.1.drew.cell (p := ⟨bs, os + i, none⟩) (by show bs < B0; omega)).trans q0
        go_upto_region 7 with (fail)
        clear m0 l2 q0
        refine wp_region_still_tail 9 (by kernel_rfl) (by kernel_rfl) ?_
        change wpStill _ _ wr.drew (fun a' => wpList _ _ _ _ a' wr.drew) _ _
        clear HJ
        generalize wr.drew = wq at *
        have l0 := HQ7.out.2.2.cell 0; have l1 := HQ7.out.2.2.cell 1; have l2 := HQ7.out.2.2.cell 2; have l3 := HQ7.out.2.2.cell 3; have l4 := HQ7.out.2.2.cell 4; have l5 := HQ7.out.2.2.cell 5; have l6 := HQ7.out.2.2.cell 6; have l7 := HQ7.out.2.2.cell 7; have l8 := HQ7.out.2.2.cell 8; have l9 := HQ7.out.2.2.cell 9
        simp only [List.getElem?_toArray, List.getElem?_cons_zero, List.getElem?_cons_succ] at l0 l1 l2 l3 l4 l5 l6 l7 l8 l9
        simp only [List.take_succ_cons, List.take_zero, List.drop_succ_cons, List.drop_zero]
        repeat still_step
        refine wpStill_nil ?_
        go_wp2_with fail
        refine (refNear_any wq D _ L x (HV.out.keep HQ7.out.2.1 hDB) (by have := HQ7.out.2.1.size; omega) HL.out).mono ?_; rintro e w1 ⟨v1, rfl, ho1, hb1⟩
        obtain ⟨A9, c9, hv1⟩ := own_slice ho1
        subst hv1
        have HO1 : Hid (w1.ownsRow B0 3 1 (.slice A5 bs0.length c5) bs0.length (ivals bs0) ∧ Below B0 w w1 ∧ Row w1 n0 35 #[.slice A0 k0 c0, .slice A1 k1 c1, .slice (some ⟨b, o, none⟩) k2 c2, .slice A3 k3 c3, .slice A4 k4 c4, .int .i64 t0, .int .i64 t1, .int .i64 t2, .int .i64 t3, .int .i64 t4]) := ⟨own_below HQ7.out.1 hb1, HQ7.out.2.1.trans (hb1.mono (by have := HQ7.out.2.1.size; omega)), Below.row hb1 HQ7.out.2.2 HQ7.out.2.2.lt⟩
        have HP1 : Hid (w1.ownsRow wq.heap.size 3 1 (.slice A9 (nearL L x).length c9) (nearL L x).length (ivals (nearL L x))) := ho1
        have HFR : Hid (∀ k, (Value.slice A9 (nearL L x).length c9).ownBlock = some k → (Value.slice A5 bs0.length c5).ownBlock ≠ some k) := fun k hk e => by
          have h1 := (ho1.lt k hk).1
          have h2 := (HQ7.out.1.lt k e).2
          omega
        clear hb1 ho1 HQ7 m0d q0d l0 l1 l2 l3 l4 l5 l6 l7 l8 l9
        generalize nearL L x = ns at *
        obtain ⟨BN, hBN⟩ : ∃ n, n = wq.heap.size := ⟨_, rfl⟩
        rw [← hBN] at HP1
        clear hBN
        go_wp2_with fail
        go_loopw [5, 8] (fun t k wr => ∃ (j : Nat) (zs : List Int), j ≤ ns.length ∧ zs.length ≤ bs0.length + j ∧ k = .int .i64 j ∧ Hid (zs = bs0 ++ partsOf L (pn : Int) (ns.take j) ∧ wr.ownsRow B0 3 1 t zs.length (ivals zs) ∧ Below B0 w wr ∧ Row wr n0 35 #[.slice A0 k0 c0, .slice A1 k1 c1, .slice (some ⟨b, o, none⟩) k2 c2, .slice A3 k3 c3, .slice A4 k4 c4, .int .i64 t0, .int .i64 t1, .int .i64 t2, .int .i64 t3, .int .i64 t4] ∧ wr.ownsRow BN 3 1 (.slice A9 ns.length c9) ns.length (ivals ns) ∧ ∀ k, (Value.slice A9 ns.length c9).ownBlock = some k → t.ownBlock ≠ some k)) (fun _ k _ => ns.length - (intOf k).toNat)
        case atStart => exact ⟨0, bs0, Nat.zero_le _, Nat.le_refl _, rfl, by simp [partsOf], HO1.out.1, HO1.out.2.1, HO1.out.2.2, HP1.out, HFR.out⟩
        case round =>
          obtain ⟨j, zs, hj, hzl, rfl, HK⟩ := hrel
          obtain ⟨A6, c6, hv6⟩ := own_slice HK.out.2.1
          subst hv6
          by_cases hlt2 : j < ns.length
          · have HST : Hid (bs0 ++ partsOf L (pn : Int) (ns.take (j + 1)) = zs ++ (if otherP (pn : Int) (partL L.parts ns[j]) = true then [partL L.parts ns[j]] else [])) := by show _ = _; rw [partsOf_take L (pn : Int) ns j hlt2, HK.out.1, List.append_assoc]
            obtain ⟨bb, oo, hA, hbD, q0⟩ := (Rd.of_own HK.out.2.2.2.2.1).at (i := j) (u := .int .i64 ns[j]) (by simp [ivals, hlt2])
            subst hA
            generalize ns[j] = y at *
            have HQ9 : Hid (wr.drew.ownsRow B0 3 1 (.slice A6 zs.length c6) zs.length (ivals zs) ∧ Below B0 w wr.drew ∧ Row wr.drew n0 35 #[.slice A0 k0 c0, .slice A1 k1 c1, .slice (some ⟨b, o, none⟩) k2 c2, .slice A3 k3 c3, .slice A4 k4 c4, .int .i64 t0, .int .i64 t1, .int .i64 t2, .int .i64 t3, .int .i64 t4] ∧ wr.drew.ownsRow BN 3 1 (.slice (some ⟨bb, oo, none⟩) ns.length c9) ns.length (ivals ns)) := ⟨HK.out.2.1, HK.out.2.2.1.drew, HK.out.2.2.2.1, HK.out.2.2.2.2.1⟩
            have HF3 := Lib.hid HK.out.2.2.2.2.2
            have q0d : wr.drew.cell? ⟨bb, oo + j, none⟩ = some (.int .i64 y) := q0
            go_upto_region 11 with (fail)
            clear q0
            refine wp_region_still_tail 5 (by kernel_rfl) (by kernel_rfl) ?_
            change wpStill _ _ wr.drew (fun a' => wpList _ _ _ _ a' wr.drew) _ _
            clear HK
            generalize wr.drew = wq at *
            have l0 := HQ9.out.2.2.1.cell 0; have l1 := HQ9.out.2.2.1.cell 1; have l2 := HQ9.out.2.2.1.cell 2; have l3 := HQ9.out.2.2.1.cell 3; have l4 := HQ9.out.2.2.1.cell 4; have l5 := HQ9.out.2.2.1.cell 5; have l6 := HQ9.out.2.2.1.cell 6; have l7 := HQ9.out.2.2.1.cell 7; have l8 := HQ9.out.2.2.1.cell 8; have l9 := HQ9.out.2.2.1.cell 9
            simp only [List.getElem?_toArray, List.getElem?_cons_zero, List.getElem?_cons_succ] at l0 l1 l2 l3 l4 l5 l6 l7 l8 l9
            simp only [List.take_succ_cons, List.take_zero, List.drop_succ_cons, List.drop_zero]
            repeat still_step
            refine wpStill_nil ?_
            go_wp2_with fail
            refine (refPart_any wq D _ L y (HV.out.keep HQ9.out.2.1 hDB) (by have := HQ9.out.2.1.size; omega) HL.out).mono ?_; rintro e w3 ⟨rfl, hb3⟩
            have HO3 := Lib.hid (own_below HQ9.out.1 hb3)
            have HB3 : Hid (Below B0 w w3) := HQ9.out.2.1.trans (hb3.mono (by have := HQ9.out.2.1.size; omega))
            have HR3 : Hid (Row w3 n0 35 #[.slice A0 k0 c0, .slice A1 k1 c1, .slice (some ⟨b, o, none⟩) k2 c2, .slice A3 k3 c3, .slice A4 k4 c4, .int .i64 t0, .int .i64 t1, .int .i64 t2, .int .i64 t3, .int .i64 t4]) := Below.row hb3 HQ9.out.2.2.1 HQ9.out.2.2.1.lt
            have HP3 := Lib.hid (own_below HQ9.out.2.2.2 hb3)
            clear hb3 HQ9 q0d l0 l1 l2 l3 l4 l5 l6 l7 l8 l9
            generalize partL L.parts y = z at *
            have HOT : Hid (otherP (pn : Int) z = (!(z == (pn : Int)) && decide (0 ≤ z))) := rfl
            cases ho : otherP (pn : Int) z with
            | true =>
              have HSN : Hid (bs0 ++ partsOf L (pn : Int) (ns.take (j + 1)) = zs ++ [z] ∧ ivals zs ++ [.int .i64 z] = ivals (zs ++ [z]) ∧ (zs ++ [z]).length = zs.length + 1) := by
                have h1 := HST.out
                rw [ho, if_pos rfl] at h1
                exact ⟨h1, ivals_snoc' _ _, by simp⟩
              have hoo : (!(z == (pn : Int)) && decide (0 ≤ z)) = true := by rw [← HOT.out]; exact ho
              rw [Bool.and_eq_true] at hoo
              have hz1 : ¬ z = (pn : Int) := by simpa using hoo.1
              have hz2 : 0 ≤ z := by simpa using hoo.2
              clear HST ho hoo HOT
              go_wp2_with (at_builtin; refine wpList_append_own_at _ rfl (.tmp 58) (.tmp 60) 45 rfl B0 3 i3 (.int .i64 0) 1 8 Try.underlying45 hi3 hz30 hz31 hz32 rfl (by decide) _ _ _ rfl (HO3.out.alloc _) ⟨w3.heap.size, 0, none⟩ 1 1 [.int .i64 z] rfl rfl (one_new w3 3 _) (one_cell rfl) (by unfold maxLen; omega) (by omega) (by have := HB3.out.size; simp; omega) ?_)
              intro v7 w7 hown7 hgrow7 _ hat7
              rw [HSN.out.2.1] at hown7
              have hnsl := fun k hk => ((HP3.out.lt k hk).2)
              have hba : Below B0 w (w3.alloc (.cells #[.int .i64 z] 3)) := HB3.out.alloc (by have := HB3.out.size; omega) _
              have HNX : Hid (zs ++ [z] = bs0 ++ partsOf L (pn : Int) (ns.take (j + 1)) ∧ w7.ownsRow B0 3 1 v7 (zs ++ [z]).length (ivals (zs ++ [z])) ∧ Below B0 w w7 ∧ Row w7 n0 35 #[.slice A0 k0 c0, .slice A1 k1 c1, .slice (some ⟨b, o, none⟩) k2 c2, .slice A3 k3 c3, .slice A4 k4 c4, .int .i64 t0, .int .i64 t1, .int .i64 t2, .int .i64 t3, .int .i64 t4] ∧ w7.ownsRow BN 3 1 (.slice (some ⟨bb, oo, none⟩) ns.length c9) ns.length (ivals ns) ∧ ∀ k, (Value.slice (some ⟨bb, oo, none⟩) ns.length c9).ownBlock = some k → v7.ownBlock ≠ some k) := by
                refine ⟨HSN.out.1.symm, by rw [HSN.out.2.2]; exact hown7, hba.grown hgrow7 (by have := hba.size; omega) (fun kk hk => (HO3.out.lt kk hk).1), (HR3.out.alloc _).grown hgrow7 (own_ne HO3.out HR3.out (by decide)), ?_, ?_⟩
                · refine (HP3.out.alloc _).kept hgrow7 ?_
                  right
                  intro e
                  cases hk : (Value.slice (some ⟨bb, oo, none⟩) ns.length c9).ownBlock with
                  | none => simp [Value.ownBlock] at hk
                  | some k => exact HF3.out k hk (by rw [← e]; exact hk)
                · intro k hk e
                  rcases hat7 with h | h
                  · exact HF3.out k hk (by rw [← h]; exact e)
                  · rw [h] at e
                    injection e with e
                    have := hnsl k hk
                    omega
              clear hown7 hgrow7 hat7 hnsl hba
              have hl7 := HSN.out.2.2
              go_wp2_with fail
              go_roundw
              case rel => exact ⟨j + 1, zs ++ [z], by omega, by omega, by go_num, HNX⟩
              case measure => simp [intOf]; omega
            | false =>
              have HSN : Hid (zs = bs0 ++ partsOf L (pn : Int) (ns.take (j + 1))) := by
                have h1 := HST.out
                rw [ho, if_neg (by decide), List.append_nil] at h1
                exact h1.symm
              have hoo : (!(z == (pn : Int)) && decide (0 ≤ z)) = false := by rw [← HOT.out]; exact ho
              clear HST ho HOT
              by_cases hz2 : 0 ≤ z
              · have hz1 : z = (pn : Int) := by
                  rw [decide_eq_true hz2, Bool.and_true] at hoo
                  simpa using hoo
                subst hz1
                clear hoo
                go_wp2_with fail
                go_roundw
                case rel => exact ⟨j + 1, zs, by omega, by omega, by go_num, HSN.out, HO3.out, HB3.out, HR3.out, HP3.out, HF3.out⟩
                case measure => simp [intOf]; omega
              · clear hoo
                go_wp2_with fail
                go_roundw
                case rel => exact ⟨j + 1, zs, by omega, by omega, by go_num, HSN.out, HO3.out, HB3.out, HR3.out, HP3.out, HF3.out⟩
                case measure => simp [intOf]; omega
          · have HJE : Hid (zs = besTo L (pn : Int) (ss.take (i + 1))) := by
              have h1 := HK.out.1
              rw [List.take_of_length_le (by omega)] at h1
              show _ = _
              rw [HS.out]; exact h1
            have HK2 : Hid (wr.ownsRow B0 3 1 (.slice A6 zs.length c6) zs.length (ivals zs) ∧ Below B0 w wr ∧ Row wr n0 35 #[.slice A0 k0 c0, .slice A1 k1 c1, .slice (some ⟨b, o, none⟩) k2 c2, .slice A3 k3 c3, .slice A4 k4 c4, .int .i64 t0, .int .i64 t1, .int .i64 t2, .int .i64 t3, .int .i64 t4]) := ⟨HK.out.2.1, HK.out.2.2.1, HK.out.2.2.2.1⟩
            clear HK
            go_wp2_with fail
            go_roundw
            case rel => exact ⟨i + 1, zs, by omega, by omega, by go_num, HJE.out, HK2.out⟩
            case measure => simp [intOf]; omega
      · have HIE : Hid (bs0 = besTo L (pn : Int) ss) := by
          have h1 := HJ.out.1
          rw [List.take_of_length_le (by omega)] at h1
          exact h1
        have HJ2 := Lib.hid HJ.out
        clear HJ
        go_wp2_with fail
        refine (refRise_any wr _ bs0 (Rd.of_own HJ2.out.2.1) (by omega)).mono ?_; rintro e w8 ⟨v8, rfl, ho8, hb8⟩
        have HO8 : Hid (w8.ownsRow B0 3 1 v8 (riseL bs0).length (ivals (riseL bs0)) ∧ Below B0 w w8) := ⟨own_base ho8 (by have := HJ2.out.2.2.1.size; omega), HJ2.out.2.2.1.trans (hb8.mono (by have := HJ2.out.2.2.1.size; omega))⟩
        clear ho8 hb8
        go_wp2_with fail
        go_ret
        rw [HE.out, ← HIE.out]
        exact ⟨_, rfl, HO8.out.1, HO8.out.2⟩
  · have HE : Hid (besideL L p = []) := by show _ = _; unfold besideL; rw [if_neg (by have := HKK.out; omega)]
    generalize besideL L p = r at *
    go_enter Try.func32, Try.ntmps32
    go_upto_region 1 with (fail)
    obtain ⟨n0, hn0⟩ : ∃ n, n = w.heap.size := ⟨_, rfl⟩
    rw [← hn0] at HRA ⊢
    have HN0 : Hid (n0 = B0) := by have := HB0.out; show _ = _; omega
    clear hn0
    generalize w.alloc (.cells #[.slice A0 k0 c0, .slice A1 k1 c1, .slice A2 k2 c2, .slice A3 k3 c3, .slice A4 k4 c4, .int .i64 t0, .int .i64 t1, .int .i64 t2, .int .i64 t3, .int .i64 t4] 35) = W0 at *
    have l2 := HRA.out.cell 2
    simp only [List.getElem?_toArray, List.getElem?_cons_zero, List.getElem?_cons_succ] at l2
    by_cases h1 : p < 0
    · go_wp2_with fail
      go_ret
      rw [HE.out]
      exact ⟨_, rfl, World.ownsRow_nil _ _ _ _, HBA.out⟩
    · have h2 : (k2 : Int) ≤ p := by omega
      have h3 : 0 ≤ p := by omega
      go_wp2_with fail
      go_ret
      rw [HE.out]
      exact ⟨_, rfl, World.ownsRow_nil _ _ _ _, HBA.out⟩

set_option maxHeartbeats 4000000 in
theorem same28 (w : World) (D1 D2 : Nat) (v1 v2 : Value) (xs : List (Int × Int)) (h1 : Prs w D1 v1 xs) (h2 : Prs w D2 v2 xs) (hl : xs.length ≤ 1000) :
    Calls Try.prog 28 #[v1, v2] w fun e w' => e = .returned (.bool true) ∧ Below w.heap.size w w' := by
  have HP := Lib.hid h1; have HQ := Lib.hid h2
  obtain ⟨A, c, rfl, -⟩ := h1
  obtain ⟨B, d, rfl, -⟩ := h2
  go_enter Try.func28, Try.ntmps28
  go_wp2_with fail
  go_loopw [5] (fun k wr => ∃ j : Nat, j ≤ xs.length ∧ k = .int .i64 j ∧ Hid (Prs wr D1 (.slice A xs.length c) xs ∧ Prs wr D2 (.slice B xs.length d) xs ∧ Below w.heap.size w wr)) (fun k _ => xs.length - (intOf k).toNat)
  case atStart => exact ⟨0, Nat.zero_le _, rfl, HP.out, HQ.out, Below.refl _ _⟩
  case round =>
    obtain ⟨j, hj, rfl, HJ⟩ := hrel
    by_cases hlt : j < xs.length
    · obtain ⟨b1, o1, hA1, -, u0, u1⟩ := HJ.out.1.at j hlt
      obtain ⟨b2, o2, hA2, -, y0, y1⟩ := HJ.out.2.1.at j hlt
      subst hA1 hA2
      generalize xs[j] = z at *
      obtain ⟨z0, z1⟩ := z
      simp only at u0 u1 y0 y1
      have qe := neq_end z0 z1 z0 z1
      have hzb : (z0 == z0 && z1 == z1) = true := by simp
      rw [hzb] at qe
      clear hzb
      go_upto_region 6 with (fail)
      go_quiet (fail)
      have HF : Hid (∀ n, Prs (wr.drewN n) D1 (.slice (some ⟨b1, o1, none⟩) xs.length c) xs ∧ Prs (wr.drewN n) D2 (.slice (some ⟨b2, o2, none⟩) xs.length d) xs ∧ Below w.heap.size w (wr.drewN n)) := fun n => ⟨HJ.out.1.drewN n, HJ.out.2.1.drewN n, Below.drewN HJ.out.2.2 n⟩
      clear HJ u0 u1 y0 y1 qe
      go_wp2_with fail
      go_roundw
      case rel => exact ⟨j + 1, by omega, by go_num, HF.out _⟩
      case measure => simp [intOf]; omega
    · go_wp2_with fail
      go_ret
      exact ⟨rfl, HJ.out.2.2⟩

end Go.Proofs.Ytpipkbdkkbcooaa
