/- Contract of own: Next. -/
import Derived.Test.YthnjilbfkfekhaaO4
namespace Go.Proofs.Ythnjilbfkfekhaa
open Go.RowKit Fl
set_option maxRecDepth 100000

/-- What Next's loop keeps. -/
structure NxSt (n0 DG g : Nat) (cl : Array Value) (vg vw vc vv : Value) (L : Lay) (was : List Int) (clr : List Bool) (xs : List Vw) (W : World) : Prop where
  row : Row W n0 39 cl
  lay : LayV W DG (.agg cl) L
  gr : IsGr W DG vg L
  w : Rd W DG vw (ivals was)
  c : Rd W DG vc (cvals clr)
  v : Vws W DG vv xs
  n0 : n0 < DG
  dg : DG ≤ g
theorem NxSt.step {n0 DG g : Nat} {cl : Array Value} {vg vw vc vv : Value} {L : Lay} {was : List Int} {clr : List Bool} {xs : List Vw} {W W' : World} (h : NxSt n0 DG g cl vg vw vc vv L was clr xs W) (hb : Below DG W W') : NxSt n0 DG g cl vg vw vc vv L was clr xs W' :=
  ⟨Below.row hb h.row h.n0, h.lay.mono (Nat.le_refl _) (fun _ hp => hb.cell hp), h.gr.keep hb (Nat.le_refl _), h.w.below hb (Nat.le_refl _), h.c.below hb (Nat.le_refl _), h.v.below hb (Nat.le_refl _), h.n0, h.dg⟩

set_option maxHeartbeats 4000000 in
theorem nextOwn_any (w : World) (vl vw vc vv : Value) (L : Lay) (was : List Int) (clr : List Bool) (xs : List Vw) (hlay : LayV w w.heap.size vl L) (hL : Fits L) (hlw : was.length = L.parts.length) (hlc : clr.length = L.parts.length)
    (hw : Rd w w.heap.size vw (ivals was)) (hc : Rd w w.heap.size vc (cvals clr)) (hv : Vws w w.heap.size vv xs) (hok : OkO was) (hx : OkV xs) (hp : ∀ p ∈ L.parts, Wf p) :
    Calls Try.prog 17 #[vl, vw, vc, vv] w (RetRow (nextO L was clr xs) w) := by
  obtain ⟨A0, k0, c0, A1, k1, c1, A2, k2, c2, A3, k3, c3, A4, k4, c4, t0, t1, t2, t3, t4, hvl, _, _, hk2, _⟩ := hlay.lens
  subst hvl
  have hb0 := (Below.refl w.heap.size w).alloc (Nat.le_refl _) (.cells #[.slice A0 k0 c0, .slice A1 k1 c1, .slice A2 k2 c2, .slice A3 k3 c3, .slice A4 k4 c4, .int .i64 t0, .int .i64 t1, .int .i64 t2, .int .i64 t3, .int .i64 t4] 39)
  have HB0 := Lib.hid hb0
  have HL0 := Lib.hid (hlay.up hb0)
  have HW0 := Lib.hid ((hw.below hb0 (Nat.le_refl _)).mono hb0.size (fun _ _ => rfl))
  have HC0 := Lib.hid ((hc.below hb0 (Nat.le_refl _)).mono hb0.size (fun _ _ => rfl))
  have HV0 := Lib.hid (hv.up hb0)
  have hr0 := Row.new w 39 #[.slice A0 k0 c0, .slice A1 k1 c1, .slice A2 k2 c2, .slice A3 k3 c3, .slice A4 k4 c4, .int .i64 t0, .int .i64 t1, .int .i64 t2, .int .i64 t3, .int .i64 t4]
  have HR0 := Lib.hid hr0
  have HF := Lib.hid hL; have HOK := Lib.hid hok; have HX := Lib.hid hx; have HP := Lib.hid hp
  have HLW := Lib.hid hlw; have HLC := Lib.hid hlc
  obtain ⟨Aw, cw, rfl, -, -⟩ := id hw
  obtain ⟨Ac, cc, rfl, -, -⟩ := id hc
  obtain ⟨Av, cv, vvs, rfl, -⟩ := id hv
  have HK2 : Hid (L.parts.length = k2 ∧ k2 ≤ 100) := ⟨hk2, by rw [← hk2]; exact hL.p⟩
  have hil : (ivals was).length = k2 := by rw [← hk2, ← hlw]; simp [ivals]
  have hcl : (cvals clr).length = k2 := by rw [← hk2, ← hlc]; simp [cvals]
  rw [hil] at HW0 ⊢
  rw [hcl] at HC0 ⊢
  clear hlay hb0 hL hlw hlc hw hc hv hok hx hp hr0 hil hcl hk2
  go_enter Try.func17, Try.ntmps17
  go_upto_region 1 with (fail)
  obtain ⟨n0, hn0⟩ : ∃ n, n = w.heap.size := ⟨_, rfl⟩
  have HN : Hid (n0 = w.heap.size) := hn0
  rw [← hn0] at HR0 ⊢
  clear hn0
  generalize w.alloc (.cells #[.slice A0 k0 c0, .slice A1 k1 c1, .slice A2 k2 c2, .slice A3 k3 c3, .slice A4 k4 c4, .int .i64 t0, .int .i64 t1, .int .i64 t2, .int .i64 t3, .int .i64 t4] 39) = W0 at *
  have p0 := HR0.out.cell 0; have p1 := HR0.out.cell 1; have p2 := HR0.out.cell 2; have p3 := HR0.out.cell 3; have p4 := HR0.out.cell 4; have p5 := HR0.out.cell 5; have p6 := HR0.out.cell 6; have p7 := HR0.out.cell 7; have p8 := HR0.out.cell 8; have p9 := HR0.out.cell 9
  simp only [List.getElem?_toArray, List.getElem?_cons_zero, List.getElem?_cons_succ] at p0 p1 p2 p3 p4 p5 p6 p7 p8 p9
  go_wp2_with fail
  refine (new_any W0 _ L HL0.out HF.out).mono ?_; rintro e wE ⟨vg, rfl, hg, hbE⟩
  obtain ⟨DG, hDG⟩ : ∃ n, n = wE.heap.size := ⟨_, rfl⟩
  have hsz : W0.heap.size ≤ DG := by rw [hDG]; exact hbE.size
  have HS0 : Hid (∀ g, DG ≤ g → NxSt n0 DG g #[.slice A0 k0 c0, .slice A1 k1 c1, .slice A2 k2 c2, .slice A3 k3 c3, .slice A4 k4 c4, .int .i64 t0, .int .i64 t1, .int .i64 t2, .int .i64 t3, .int .i64 t4] vg (.slice Aw k2 cw) (.slice Ac k2 cc) (.slice Av xs.length cv) L was clr xs wE) := fun g hg1 =>
    ⟨Below.row hbE HR0.out HR0.out.lt, by rw [hDG]; exact HL0.out.up hbE, by rw [hDG]; exact hg, (HW0.out.below hbE (Nat.le_refl _)).mono hsz (fun _ _ => rfl), (HC0.out.below hbE (Nat.le_refl _)).mono hsz (fun _ _ => rfl), (HV0.out.below hbE (Nat.le_refl _)).mono hsz (fun _ _ => rfl), Nat.lt_of_lt_of_le HR0.out.lt hsz, hg1⟩
  have HBE : Hid (Below w.heap.size w wE) := HB0.out.trans (hbE.mono HB0.out.size)
  have HRE := Lib.hid (Below.row hbE HR0.out HR0.out.lt)
  have HDG : Hid (DG = wE.heap.size ∧ w.heap.size ≤ DG) := ⟨hDG, Nat.le_trans HB0.out.size hsz⟩
  clear p0 p1 p2 p3 p4 p5 p6 p7 p8 p9 hg hbE hsz hDG HL0 HW0 HC0 HV0 HB0 HR0
  have p2 := HRE.out.cell 2
  simp only [List.getElem?_toArray, List.getElem?_cons_zero, List.getElem?_cons_succ] at p2
  go_wp2_with fail
  refine (start_any wE k2 (by have := HK2.out; omega)).mono ?_; rintro e w1 ⟨g, rfl, hg1, hr1, hb1⟩
  simp only [List.length_replicate]
  have HS1 := Lib.hid ((HS0.out g (by have := HDG.out; omega)).step (hb1.mono (by have := HDG.out; omega)))
  have HB1 : Hid (Below w.heap.size w w1) := HBE.out.trans (hb1.mono (by have := HBE.out.size; omega))
  have hz : List.replicate k2 (-1 : Int) = mixO (partO L was clr xs) (-1) k2 0 := (mixO_zero _ _ _).symm
  rw [hz] at hr1
  have HR1 := Lib.hid hr1
  have HG : Hid (w.heap.size ≤ g) := by have := HDG.out; show _ ≤ g; omega
  have HE : Hid (nextO L was clr xs = mixO (partO L was clr xs) (-1) k2 k2) := by show _ = _; rw [mixO_full]; unfold nextO; rw [HK2.out.1]
  clear p2 hz hr1 hb1 hg1 HS0 HBE HRE HDG HN
  have p2 := HS1.out.row.cell 2
  simp only [List.getElem?_toArray, List.getElem?_cons_zero, List.getElem?_cons_succ] at p2
  go_wp2_with fail
  clear p2
  go_loopw [26] (fun k wr => ∃ i : Nat, i ≤ k2 ∧ k = .int .i64 i ∧ Hid (Below w.heap.size w wr ∧ Row wr g 3 (ivals (mixO (partO L was clr xs) (-1) k2 i)).toArray ∧ NxSt n0 DG g #[.slice A0 k0 c0, .slice A1 k1 c1, .slice A2 k2 c2, .slice A3 k3 c3, .slice A4 k4 c4, .int .i64 t0, .int .i64 t1, .int .i64 t2, .int .i64 t3, .int .i64 t4] vg (.slice Aw k2 cw) (.slice Ac k2 cc) (.slice Av xs.length cv) L was clr xs wr)) (fun k _ => k2 - (intOf k).toNat)
  case atStart => exact ⟨0, Nat.zero_le _, rfl, HB1.out, HR1.out, HS1.out⟩
  case round =>
    obtain ⟨i, hi, rfl, HJ⟩ := hrel
    clear HB1 HR1 HS1
    have hk100 := HK2.out.2
    by_cases hlt : i < k2
    · have hip : i < L.parts.length := by have := HK2.out; omega
      have hli : (i : Int) < (k2 : Int) := by omega
      obtain ⟨bp, op, vsec, hA2, q0, hq⟩ := HJ.out.2.2.lay.part_at i hip
      subst hA2
      have HSEC := Lib.hid hq
      have hwfp := HP.out L.parts[i] (List.getElem_mem hip)
      have hlnp := HF.out.r L.parts[i] (List.getElem_mem hip)
      have HSP : Hid (L.parts.getD i [] = L.parts[i]) := by show _ = _; simp [List.getD, hip]
      have HWP : Hid (L.parts[i].length ≤ 1000 ∧ Wf L.parts[i]) := ⟨by omega, hwfp⟩
      obtain ⟨As, cs, rfl, -, -⟩ := id hq
      have hsl : (ivals L.parts[i]).length = L.parts[i].length := by simp [ivals]
      rw [hsl] at HSEC q0
      generalize L.parts[i] = sec at *
      obtain ⟨sl, hsl3⟩ : ∃ n, sec.length = n := ⟨_, rfl⟩
      have HSL := Lib.hid hsl3
      rw [hsl3] at HSEC HWP q0
      clear hsl3
      clear hq hwfp hlnp hsl hip
      have HCL := Lib.hid (isClear_any wr DG _ clr i HJ.out.2.2.c (by have := HLC.out; have := HK2.out; omega))
      have hcvl : (cvals clr).length = k2 := by have := HLC.out; have := HK2.out; simp [cvals]; omega
      obtain ⟨cb, hcb⟩ : ∃ b, clr.getD i false = b := ⟨_, rfl⟩
      have HCB := Lib.hid hcb
      rw [hcb] at HCL
      clear hcb hcvl
      cases cb with
      | true =>
        have c3 := HJ.out.2.1.cell i; have z3 := HJ.out.2.1.frozen i
        obtain ⟨u, hu⟩ : ∃ u, wr.cell? ⟨g, i, none⟩ = some (.int .i64 u) := by
          rw [c3]; exact ⟨(mixO (partO L was clr xs) (-1) k2 i)[i]'(by rw [mixO_len]; exact hlt), by simp [ivals, mixO_len, hlt]⟩
        clear c3
        have hpo : partO L was clr xs i = -2 := by unfold partO; rw [if_pos HCB.out]
        have HJ2 : Hid (Below w.heap.size w (wr.setCell ⟨g, i, none⟩ (.int .i64 (-2))) ∧ Row (wr.setCell ⟨g, i, none⟩ (.int .i64 (-2))) g 3 (ivals (mixO (partO L was clr xs) (-1) k2 (i + 1))).toArray ∧ NxSt n0 DG g #[.slice A0 k0 c0, .slice A1 k1 c1, .slice (some ⟨bp, op, none⟩) k2 c2, .slice A3 k3 c3, .slice A4 k4 c4, .int .i64 t0, .int .i64 t1, .int .i64 t2, .int .i64 t3, .int .i64 t4] vg (.slice Aw k2 cw) (.slice Ac k2 cc) (.slice Av xs.length cv) L was clr xs (wr.setCell ⟨g, i, none⟩ (.int .i64 (-2)))) := by
          have hset := HJ.out.2.1.set i (.int .i64 (-2))
          rw [ivals_set, ← hpo, mixO_set] at hset
          rw [hpo] at hset
          refine ⟨HJ.out.1.setCell (p := ⟨g, i, none⟩) HG.out _, hset, HJ.out.2.2.step ((Below.refl _ _).setCell (p := ⟨g, i, none⟩) HJ.out.2.2.dg _)⟩
        clear hpo
        go_wp2_with fail
        refine HCL.out.mono ?_; rintro e w2 ⟨rfl, rfl⟩
        go_wp2_with fail
        go_roundw
        case rel => exact ⟨i + 1, by omega, by go_num, HJ2.out⟩
        case measure => simp [intOf]; omega
      | false =>
        have HPO : Hid (partO L was clr xs i = if 0 ≤ whoO L was i ∧ holdsB xs sec (whoO L was i) = true then whoO L was i else -1) := by
          show _ = _; unfold partO; rw [HCB.out, HSP.out]; rfl
        have hwo := whoO_ok (L := L) HOK.out i
        have HWO := Lib.hid hwo
        have hwe : foldO was (was.getD i 0) (besideL L (i : Int)) = whoO L was i := rfl
        have HWE := Lib.hid hwe
        clear hwo hwe
        obtain ⟨r, hr⟩ : ∃ r, whoO L was i = r := ⟨_, rfl⟩
        rw [hr] at HPO HWO HWE
        clear hr
        go_wp2_with fail
        refine HCL.out.mono ?_; rintro e w2 ⟨rfl, rfl⟩
        go_wp2_with fail
        refine (beside_any wr DG _ L (i : Int) HJ.out.2.2.gr (by have := HJ.out.2.1.lt; have := HJ.out.2.2.dg; omega) HF.out).mono ?_; rintro e w3 ⟨vb, rfl, hob, hb3⟩
        have HB3 : Hid (Below w.heap.size w w3) := HJ.out.1.trans (hb3.mono HJ.out.1.size)
        have HR3 := Lib.hid (Below.row hb3 HJ.out.2.1 HJ.out.2.1.lt)
        have HS3 := Lib.hid (HJ.out.2.2.step (hb3.mono (by have := HJ.out.2.1.lt; have := HJ.out.2.2.dg; omega)))
        have HAL := Lib.hid (alone_any w3 DG w3.heap.size _ vb was (besideL L (i : Int)) i HS3.out.w (by have := HLW.out; have := HK2.out; omega) (Rd.of_own hob) (by have := besideL_len HF.out (i : Int); omega) (fun b hb => by obtain ⟨k, hk1, hk2⟩ := besideL_in hb; exact ⟨k, hk1, by have := HLW.out; omega⟩))
        rw [HWE.out] at HAL
        obtain ⟨Ab, cb, hvb⟩ := own_slice hob
        subst hvb
        have HSEC3 : Hid (Rd w3 w3.heap.size (.slice As sl cs) (ivals sec)) := (HSEC.out.below (hb3.mono (by have := HJ.out.2.1.lt; have := HJ.out.2.2.dg; omega)) (Nat.le_refl _)).mono (by have := HR3.out.lt; have := HS3.out.dg; omega) (fun _ _ => rfl)
        clear hb3 hob HJ HCL HSEC
        go_wp2_with fail
        refine HAL.out.mono ?_; rintro e w4 ⟨rfl, rfl⟩
        clear HAL
        by_cases hr0 : 0 ≤ r
        · have hr2 : (r == -2) = false := by rw [beq_eq_false_iff_ne]; omega
          have hr1 : (r == -1) = false := by rw [beq_eq_false_iff_ne]; omega
          rw [hr2, hr1]
          have HFI := Lib.hid (find_any w3 DG _ xs r HS3.out.v (by have := HR3.out.lt; have := HS3.out.dg; omega) HX.out.len)
          go_wp2_with fail
          refine HFI.out.mono ?_; rintro e w5 ⟨A5, c5, rfl, h5, hb5⟩
          have HB5 : Hid (Below w.heap.size w w5) := HB3.out.trans (hb5.mono HB3.out.size)
          have HR5 := Lib.hid (Below.row hb5 HR3.out HR3.out.lt)
          have HS5 := Lib.hid (HS3.out.step (hb5.mono (by have := HR3.out.lt; have := HS3.out.dg; omega)))
          have HSEC5 : Hid (Rd w5 w5.heap.size (.slice As sl cs) (ivals sec)) := HSEC3.out.up hb5
          clear hb5 HFI HB3 HR3 HS3 HSEC3
          cases hfv : findV xs r with
          | none =>
            have hpo : partO L was clr xs i = -1 := by rw [HPO.out, if_neg]; rintro ⟨_, h⟩; unfold holdsB at h; rw [hfv] at h; cases h
            have hb6 := (Below.refl w5.heap.size w5).alloc (Nat.le_refl _) (.cells #[.int .i64 noV.1, .bool noV.2.1, .slice A5 noV.2.2.length c5] 67)
            have HJ6 : Hid (Below w.heap.size w (w5.alloc (.cells #[.int .i64 noV.1, .bool noV.2.1, .slice A5 noV.2.2.length c5] 67)) ∧ Row (w5.alloc (.cells #[.int .i64 noV.1, .bool noV.2.1, .slice A5 noV.2.2.length c5] 67)) g 3 (ivals (mixO (partO L was clr xs) (-1) k2 (i + 1))).toArray ∧ NxSt n0 DG g #[.slice A0 k0 c0, .slice A1 k1 c1, .slice (some ⟨bp, op, none⟩) k2 c2, .slice A3 k3 c3, .slice A4 k4 c4, .int .i64 t0, .int .i64 t1, .int .i64 t2, .int .i64 t3, .int .i64 t4] vg (.slice Aw k2 cw) (.slice Ac k2 cc) (.slice Av xs.length cv) L was clr xs (w5.alloc (.cells #[.int .i64 noV.1, .bool noV.2.1, .slice A5 noV.2.2.length c5] 67))) := by
              rw [mixO_skip hpo]
              exact ⟨HB5.out.trans (hb6.mono HB5.out.size), Below.row hb6 HR5.out HR5.out.lt, HS5.out.step (hb6.mono (by have := HR5.out.lt; have := HS5.out.dg; omega))⟩
            clear hpo hfv hb6 h5
            go_upto_region 11 with (fail)
            generalize w5.alloc (.cells #[.int .i64 noV.1, .bool noV.2.1, .slice A5 noV.2.2.length c5] 67) = w6 at *
            go_wp2_with fail
            go_roundw
            case rel => exact ⟨i + 1, by omega, by go_num, HJ6.out⟩
            case measure => simp [intOf]; omega
          | some z =>
            rw [hfv] at h5
            obtain ⟨z0, z1, z2⟩ := z
            have hzm : (z0, z1, z2) ∈ xs := List.mem_of_find?_eq_some hfv
            have hzs := HX.out.span _ hzm
            have hpo : partO L was clr xs i = if (z1 && meetsB z2 sec) = true then r else -1 := by
              rw [HPO.out]
              have e : holdsB xs sec r = (z1 && meetsB z2 sec) := by unfold holdsB; rw [hfv]; rfl
              rw [e]
              by_cases h : (z1 && meetsB z2 sec) = true
              · rw [if_pos ⟨hr0, h⟩, if_pos h]
              · rw [if_neg (fun x => h x.2), if_neg h]
            have HPP := Lib.hid hpo
            have hb6 := (Below.refl w5.heap.size w5).alloc (Nat.le_refl _) (.cells #[.int .i64 z0, .bool z1, .slice A5 z2.length c5] 67)
            have h5' : Rd w5 w5.heap.size (.slice A5 z2.length c5) (ivals z2) := Rd.mono h5 (by have := HR5.out.lt; have := HS5.out.dg; omega) (fun _ _ => rfl)
            have HII := Lib.hid (isIn_any (w5.alloc (.cells #[.int .i64 z0, .bool z1, .slice A5 z2.length c5] 67)) z0 z1 A5 c5 z2 sec (.slice As sl cs) (h5'.up hb6) (HSEC5.out.up hb6) hzs (by rw [HSL.out]; exact HWP.out))
            have HJ6 : Hid (Below w.heap.size w (w5.alloc (.cells #[.int .i64 z0, .bool z1, .slice A5 z2.length c5] 67)) ∧ Row (w5.alloc (.cells #[.int .i64 z0, .bool z1, .slice A5 z2.length c5] 67)) g 3 (ivals (mixO (partO L was clr xs) (-1) k2 i)).toArray ∧ NxSt n0 DG g #[.slice A0 k0 c0, .slice A1 k1 c1, .slice (some ⟨bp, op, none⟩) k2 c2, .slice A3 k3 c3, .slice A4 k4 c4, .int .i64 t0, .int .i64 t1, .int .i64 t2, .int .i64 t3, .int .i64 t4] vg (.slice Aw k2 cw) (.slice Ac k2 cc) (.slice Av xs.length cv) L was clr xs (w5.alloc (.cells #[.int .i64 z0, .bool z1, .slice A5 z2.length c5] 67))) :=
              ⟨HB5.out.trans (hb6.mono HB5.out.size), Below.row hb6 HR5.out HR5.out.lt, HS5.out.step (hb6.mono (by have := HR5.out.lt; have := HS5.out.dg; omega))⟩
            have hrv := Row.new w5 67 #[.int .i64 z0, .bool z1, .slice A5 z2.length c5]
            have m0 := hrv.cell 0; have m1 := hrv.cell 1; have m2 := hrv.cell 2
            simp only [List.getElem?_toArray, List.getElem?_cons_zero, List.getElem?_cons_succ] at m0 m1 m2
            generalize (z1 && meetsB z2 sec) = bo at *
            clear hpo hfv hb6 h5 h5' hzm hzs hrv
            go_upto_region 11 with (fail)
            generalize z2.length = zl at *
            obtain ⟨n5, hn5⟩ : ∃ n, n = w5.heap.size := ⟨_, rfl⟩
            rw [← hn5] at m0 m1 m2 ⊢
            clear hn5
            generalize w5.alloc (.cells #[.int .i64 z0, .bool z1, .slice A5 zl c5] 67) = w6 at *
            go_wp2_with fail
            refine HII.out.mono ?_; rintro e w7 ⟨rfl, hb7⟩
            have HB7 : Hid (Below w.heap.size w w7) := HJ6.out.1.trans (hb7.mono HJ6.out.1.size)
            have HR7 := Lib.hid (Below.row hb7 HJ6.out.2.1 HJ6.out.2.1.lt)
            have HS7 := Lib.hid (HJ6.out.2.2.step (hb7.mono (by have := HJ6.out.2.1.lt; have := HJ6.out.2.2.dg; omega)))
            clear hb7 HJ6 HII m0 m1 m2
            cases bo with
            | false =>
              have hpo : partO L was clr xs i = -1 := by rw [HPP.out, if_neg (by simp)]
              have HR8 : Hid (Row w7 g 3 (ivals (mixO (partO L was clr xs) (-1) k2 (i + 1))).toArray) := by rw [mixO_skip hpo]; exact HR7.out
              clear hpo
              go_wp2_with fail
              go_roundw
              case rel => exact ⟨i + 1, by omega, by go_num, HB7.out, HR8.out, HS7.out⟩
              case measure => simp [intOf]; omega
            | true =>
              have hpo : partO L was clr xs i = r := by rw [HPP.out, if_pos rfl]
              have c3 := HR7.out.cell i; have z3 := HR7.out.frozen i
              obtain ⟨u, hu⟩ : ∃ u, w7.cell? ⟨g, i, none⟩ = some (.int .i64 u) := by
                rw [c3]; exact ⟨(mixO (partO L was clr xs) (-1) k2 i)[i]'(by rw [mixO_len]; exact hlt), by simp [ivals, mixO_len, hlt]⟩
              clear c3
              have HJ8 : Hid (Below w.heap.size w (w7.setCell ⟨g, i, none⟩ (.int .i64 r)) ∧ Row (w7.setCell ⟨g, i, none⟩ (.int .i64 r)) g 3 (ivals (mixO (partO L was clr xs) (-1) k2 (i + 1))).toArray ∧ NxSt n0 DG g #[.slice A0 k0 c0, .slice A1 k1 c1, .slice (some ⟨bp, op, none⟩) k2 c2, .slice A3 k3 c3, .slice A4 k4 c4, .int .i64 t0, .int .i64 t1, .int .i64 t2, .int .i64 t3, .int .i64 t4] vg (.slice Aw k2 cw) (.slice Ac k2 cc) (.slice Av xs.length cv) L was clr xs (w7.setCell ⟨g, i, none⟩ (.int .i64 r))) := by
                have hset := HR7.out.set i (.int .i64 r)
                rw [ivals_set, ← hpo, mixO_set] at hset
                rw [hpo] at hset
                exact ⟨HB7.out.setCell (p := ⟨g, i, none⟩) HG.out _, hset, HS7.out.step ((Below.refl _ _).setCell (p := ⟨g, i, none⟩) HS7.out.dg _)⟩
              clear hpo
              go_wp2_with fail
              go_roundw
              case rel => exact ⟨i + 1, by omega, by go_num, HJ8.out⟩
              case measure => simp [intOf]; omega
        · have hpo : partO L was clr xs i = -1 := by rw [HPO.out, if_neg (fun h => hr0 h.1)]
          have HR8 : Hid (Row w3 g 3 (ivals (mixO (partO L was clr xs) (-1) k2 (i + 1))).toArray) := by rw [mixO_skip hpo]; exact HR3.out
          have hrr : r = -2 ∨ r = -1 := by have := HWO.out; omega
          clear hpo
          have hfalse : (!(r == -2) && !(r == -1)) = false := by rcases hrr with rfl | rfl <;> rfl
          rw [hfalse]
          clear hfalse hrr
          go_wp2_with fail
          go_roundw
          case rel => exact ⟨i + 1, by omega, by go_num, HB3.out, HR8.out, HS3.out⟩
          case measure => simp [intOf]; omega
    · have hin : i = k2 := by omega
      subst hin
      go_wp2_with fail
      go_ret
      rw [HE.out]
      exact ⟨g, (by rw [mixO_len]; rfl), HG.out, HJ.out.2.1, HJ.out.1⟩
end Go.Proofs.Ythnjilbfkfekhaa
