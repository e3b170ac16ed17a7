/- Contract: are a path's needs the document's? -/
import Derived.Test.YtpipkbdkkbcooaaR7
import Derived.Test.YtpipkbdkkbcooaaNHead
namespace Go.Proofs.Ytpipkbdkkbcooaa
open Go.RowKit Fl
set_option maxRecDepth 100000

set_option maxHeartbeats 8000000 in
theorem paths_any (w : World) (D : Nat) (v : Value) (L : Lay) (A : Option Addr) (c : Nat) (p : List Int) (h : LayV w D v L) (hD : D ≤ w.heap.size) (hL : Fits L) (hp : Rd w w.heap.size (.slice A p.length c) (ivals p)) (hpl : p.length ≤ 1000) (heq : pathL L p = pathR L p) :
    Calls Try.prog 19 #[v, .slice A p.length c] w fun e w' => e = .returned (.bool true) ∧ Below w.heap.size w w' := by
  have HV0 := Lib.hid (h.mono hD (fun _ _ => rfl))
  obtain ⟨A0, k0, c0, A1, k1, c1, A2, k2, c2, A3, k3, c3, A4, k4, c4, t0, t1, t2, t3, t4, rfl, -, -, -, -⟩ := h.lens
  have hbn := (Below.refl w.heap.size w).alloc (Nat.le_refl _) (.cells #[.slice A0 k0 c0, .slice A1 k1 c1, .slice A2 k2 c2, .slice A3 k3 c3, .slice A4 k4 c4, .int .i64 t0, .int .i64 t1, .int .i64 t2, .int .i64 t3, .int .i64 t4] 35)
  have HBA := Lib.hid hbn
  have HRA := Lib.hid (Row.new w 35 #[.slice A0 k0 c0, .slice A1 k1 c1, .slice A2 k2 c2, .slice A3 k3 c3, .slice A4 k4 c4, .int .i64 t0, .int .i64 t1, .int .i64 t2, .int .i64 t3, .int .i64 t4])
  have HPA := Lib.hid (hp.up hbn)
  have HVA := Lib.hid (HV0.out.up hbn)
  have HL := Lib.hid hL
  have HEQ := Lib.hid heq
  clear hL hbn hp heq HV0
  obtain ⟨B0, hB0⟩ : ∃ n, n = w.heap.size := ⟨_, rfl⟩
  rw [← hB0] at HBA ⊢
  have HB0 := Lib.hid hB0
  clear hB0 hD
  go_enter Try.func19, Try.ntmps19
  go_upto_region 1 with (fail)
  obtain ⟨n0, hn0⟩ : ∃ n, n = w.heap.size := ⟨_, rfl⟩
  rw [← hn0] at HRA ⊢
  clear hn0
  generalize w.alloc (.cells #[.slice A0 k0 c0, .slice A1 k1 c1, .slice A2 k2 c2, .slice A3 k3 c3, .slice A4 k4 c4, .int .i64 t0, .int .i64 t1, .int .i64 t2, .int .i64 t3, .int .i64 t4] 35) = W0 at *
  have l0 := HRA.out.cell 0; have l1 := HRA.out.cell 1; have l2 := HRA.out.cell 2; have l3 := HRA.out.cell 3; have l4 := HRA.out.cell 4; have l5 := HRA.out.cell 5; have l6 := HRA.out.cell 6; have l7 := HRA.out.cell 7; have l8 := HRA.out.cell 8; have l9 := HRA.out.cell 9
  simp only [List.getElem?_toArray, List.getElem?_cons_zero, List.getElem?_cons_succ] at l0 l1 l2 l3 l4 l5 l6 l7 l8 l9
  go_wp2_with fail
  refine (new_any W0 _ L HVA.out HL.out).mono ?_; rintro e w1 ⟨vg, rfl, hg, hb1⟩
  have HB1 : Hid (Below B0 w w1) := HBA.out.trans (hb1.mono (by have := HBA.out.size; have := HB0.out; omega))
  have HR1 := Lib.hid (Below.row hb1 HRA.out HRA.out.lt)
  have HP1 := Lib.hid (HPA.out.up hb1)
  have HV1 := Lib.hid (HVA.out.up hb1)
  have HG1 := Lib.hid hg
  clear hb1 hg HBA HRA HPA HVA l0 l1 l2 l3 l4 l5 l6 l7 l8 l9
  go_wp2_with fail
  refine (path_any w1 w1.heap.size _ L A c p HG1.out (Nat.le_refl _) HL.out HP1.out hpl).mono ?_; rintro e w2 ⟨v2, rfl, ho2, hb2⟩
  rw [HEQ.out] at ho2 ⊢
  obtain ⟨Aa, ca, hva⟩ := own_slice ho2
  subst hva
  have HB2 : Hid (Below B0 w w2) := HB1.out.trans (hb2.mono (by have := HB1.out.size; have := HB0.out; omega))
  have HR2 := Lib.hid (Below.row hb2 HR1.out HR1.out.lt)
  have HP2 := Lib.hid (HP1.out.up hb2)
  have HV2 := Lib.hid (HV1.out.up hb2)
  have HO2 := Lib.hid (own_base ho2 (Nat.zero_le _))
  clear hb2 ho2 HB1 HR1 HP1 HV1 HG1
  have l0 := HR2.out.cell 0; have l1 := HR2.out.cell 1; have l2 := HR2.out.cell 2; have l3 := HR2.out.cell 3; have l4 := HR2.out.cell 4; have l5 := HR2.out.cell 5; have l6 := HR2.out.cell 6; have l7 := HR2.out.cell 7; have l8 := HR2.out.cell 8; have l9 := HR2.out.cell 9
  simp only [List.getElem?_toArray, List.getElem?_cons_zero, List.getElem?_cons_succ] at l0 l1 l2 l3 l4 l5 l6 l7 l8 l9
  go_wp2_with fail
  refine (refPath_any w2 w2.heap.size _ L A c p HV2.out (Nat.le_refl _) HL.out HP2.out hpl).mono ?_; rintro e w3 ⟨v3, rfl, ho3, hb3⟩
  obtain ⟨Ab, cb, hvb⟩ := own_slice ho3
  subst hvb
  have hnl : ((pathR L p).getD []).length ≤ 1000 := by have h1 := pathN_le L p; rw [← pathL_eq, HEQ.out] at h1; omega
  have HB3 : Hid (Below B0 w w3) := HB2.out.trans (hb3.mono (by have := HB2.out.size; have := HB0.out; omega))
  have HO3 := Lib.hid (own_below HO2.out hb3)
  have HQ3 := Lib.hid (own_base ho3 (Nat.zero_le _))
  clear hb3 ho3 HB2 HR2 HP2 HV2 HO2 HEQ l0 l1 l2 l3 l4 l5 l6 l7 l8 l9
  generalize (pathR L p).isSome = pis at *
  generalize (pathR L p).getD [] = xs at *
  have hpb : (pis == pis) = true := by simp
  go_wp2_with fail
  go_loopw [9] (fun k9 wr => ∃ j : Nat, j ≤ xs.length ∧ k9 = .int .i64 j ∧ Hid (wr.ownsRow 0 55 2 (.slice Aa xs.length ca) xs.length (ncells xs) ∧ wr.ownsRow 0 90 2 (.slice Ab xs.length cb) xs.length (ncells xs) ∧ Below B0 w wr)) (fun k9 _ => xs.length - (intOf k9).toNat)
  case atStart => exact ⟨0, Nat.zero_le _, rfl, HO3.out, HQ3.out, HB3.out⟩
  case round =>
    obtain ⟨j, hj, rfl, HJ⟩ := hrel
    by_cases hlt : j < xs.length
    · obtain ⟨b1, o1, hA1, u0, u1⟩ := nds_at HJ.out.1 j hlt
      obtain ⟨b2, o2, hA2, y0, y1⟩ := nds_at HJ.out.2.1 j hlt
      subst hA1 hA2
      generalize xs[j] = z at *
      obtain ⟨z0, z1⟩ := z
      simp only at u0 u1 y0 y1
      have hzb : (z0 == z0) = true := by simp
      have hzc : (z1 == z1) = true := by simp
      go_upto_region 8 with (fail)
      go_quiet (fail)
      have HF : Hid (∀ n, (wr.drewN n).ownsRow 0 55 2 (.slice (some ⟨b1, o1, none⟩) xs.length ca) xs.length (ncells xs) ∧ (wr.drewN n).ownsRow 0 90 2 (.slice (some ⟨b2, o2, none⟩) xs.length cb) xs.length (ncells xs) ∧ Below B0 w (wr.drewN n)) := fun n => ⟨HJ.out.1, HJ.out.2.1, Below.drewN HJ.out.2.2 n⟩
      clear HJ u0 u1 y0 y1
      go_wp2_with fail
      go_roundw
      case rel => exact ⟨j + 1, by omega, by go_num, HF.out _⟩
      case measure => simp [intOf]; omega
    · go_wp2_with fail
      go_ret
      exact ⟨rfl, HJ.out.2.2⟩

theorem arg_ints {w : World} {a : Option Addr} {len cap : Nat} {zs : List Int} (h : (a = none ∧ len = 0 ∧ cap = 0 ∧ zs = []) ∨
    ∃ x, a = some x ∧ len ≤ cap ∧ cap ≤ maxLen ∧ zs.length = cap ∧ (∀ i, i < zs.length → w.cell? (x.add i) = some (.int .i64 (zs.getD i 0))) ∧ ∀ n ∈ zs, (Lit.int .i64 n).wf = true) :
    ∃ q : List Int, q.length = len ∧ Rd w w.heap.size (.slice a len cap) (ivals q) := by
  rcases h with ⟨rfl, rfl, rfl, rfl⟩ | ⟨x, rfl, hl, _, hz, hc, hwz⟩
  · exact ⟨[], rfl, Rd.empty _ _⟩
  · have hlen : (zs.take len).length = len := by simp; omega
    have hvl : (ivals (zs.take len)).length = len := by simp [ivals]; omega
    refine ⟨zs.take len, hlen, ⟨some x, cap, by rw [hvl], ⟨(fun h => by cases h), by rw [hvl]; exact hl⟩, fun hp => ?_⟩⟩
    rw [hvl] at hp
    obtain ⟨b, o, rfl, hc'⟩ := ints_at hc (by omega)
    refine ⟨b, o, rfl, cell_lt (hc' 0 (by omega)), fun j u hu => ?_⟩
    have hj : j < len := by have := (List.getElem?_eq_some_iff.1 hu).1; rw [hvl] at this; exact this
    rw [hc' j (by omega), ← hu]
    simp [ivals, List.getD, hj, show j < zs.length by omega]

end Go.Proofs.Ytpipkbdkkbcooaa
