/- Contract: the document's Walk. -/
import Derived.Test.YtagkgejdammflaaGreatWMath
namespace Go.Proofs.YtagkgejdammflaaGreat
open Go.RowKit Fl
set_option maxRecDepth 100000

set_option maxHeartbeats 8000000 in
theorem refWalk_any (w : World) (D : Nat) (v : Value) (L : Lay) (s k : Int) (A : Option Addr) (c : Nat) (ts : List Nat) (m : Nat) (h : LayV w D v L) (hD : D ≤ w.heap.size) (hL : Fits L)
    (ht : Rd w D (.slice A ts.length c) (bvals ts)) (hby : ∀ x ∈ ts, x < 256) (htl : ts.length ≤ 1000) (hm1 : 1 ≤ m) (hm2 : m ≤ 1000) :
    Calls Tryz.prog 15 #[v, .int .i64 s, .int .i64 k, .slice A ts.length c, .int .i64 (m : Int)] w (RetOwn w.heap.size (walkL L s k ts m) w) := by
  have hV := h
  obtain ⟨A0, k0, c0, A1, m1, c1, A2, k2, c2, A3, m3, c3, A4, k4, c4, t0, t1, t2, t3, t4, rfl, -, -, -, -⟩ := h.open_
  have HB0 : Hid (Below w.heap.size w (((w.alloc (.cells #[.slice A0 k0 c0, .slice A1 m1 c1, .slice A2 k2 c2, .slice A3 m3 c3, .slice A4 k4 c4, .int .i64 t0, .int .i64 t1, .int .i64 t2, .int .i64 t3, .int .i64 t4] 33)).alloc (.cells #[.int .i64 s] 3)).alloc (.cells #[.int .i64 s, .int .i64 k] 60))) := (below2 w _ _).alloc (by simp; omega) _
  have HRL0 := Lib.hid (((Row.new w 33 #[.slice A0 k0 c0, .slice A1 m1 c1, .slice A2 k2 c2, .slice A3 m3 c3, .slice A4 k4 c4, .int .i64 t0, .int .i64 t1, .int .i64 t2, .int .i64 t3, .int .i64 t4]).alloc (.cells #[.int .i64 s] 3)).alloc (.cells #[.int .i64 s, .int .i64 k] 60))
  have hr1 := (Row.new (w.alloc (.cells #[.slice A0 k0 c0, .slice A1 m1 c1, .slice A2 k2 c2, .slice A3 m3 c3, .slice A4 k4 c4, .int .i64 t0, .int .i64 t1, .int .i64 t2, .int .i64 t3, .int .i64 t4] 33)) 3 #[.int .i64 s]).alloc (.cells #[.int .i64 s, .int .i64 k] 60)
  have hr2 := Row.new ((w.alloc (.cells #[.slice A0 k0 c0, .slice A1 m1 c1, .slice A2 k2 c2, .slice A3 m3 c3, .slice A4 k4 c4, .int .i64 t0, .int .i64 t1, .int .i64 t2, .int .i64 t3, .int .i64 t4] 33)).alloc (.cells #[.int .i64 s] 3)) 60 #[.int .i64 s, .int .i64 k]
  rw [World.size_alloc] at hr1
  rw [World.size_alloc, World.size_alloc] at hr2
  have HRO0 := Lib.hid hr1
  have HRE0 := Lib.hid hr2
  have HV := Lib.hid hV
  have HL := Lib.hid hL
  have HT := Lib.hid ht
  have HBY := Lib.hid hby
  obtain ⟨r, hr⟩ : ∃ r, walkL L s k ts m = r := ⟨_, rfl⟩
  rw [hr]
  have HR : Hid (r = walkGo L ts m (m - 0) 0 [s] (s, k)) := by rw [← hr]; rfl
  obtain ⟨i3, hi3, hz30, hz31, hz32⟩ := info_parts Tryz.info3n
  clear hr hr1 hr2 h hV hL ht hby
  go_enter Tryz.func15, Tryz.ntmps15
  go_upto_region 3 with (fail)
  obtain ⟨n0, hn0⟩ : ∃ n, n = w.heap.size := ⟨_, rfl⟩
  obtain ⟨n1, hn1⟩ : ∃ n, n = n0 + 1 := ⟨_, rfl⟩
  obtain ⟨n2, hn2⟩ : ∃ n, n = n1 + 1 := ⟨_, rfl⟩
  rw [← hn0] at HB0 HRL0 HRO0 HRE0 ⊢
  rw [← hn1] at HRO0 HRE0 ⊢
  rw [← hn2] at HRE0 ⊢
  have HN : Hid (n0 = w.heap.size ∧ n1 = n0 + 1 ∧ n2 = n1 + 1 ∧ D ≤ n0) := ⟨hn0, hn1, hn2, by omega⟩
  have HO0 : Hid ((((w.alloc (.cells #[.slice A0 k0 c0, .slice A1 m1 c1, .slice A2 k2 c2, .slice A3 m3 c3, .slice A4 k4 c4, .int .i64 t0, .int .i64 t1, .int .i64 t2, .int .i64 t3, .int .i64 t4] 33)).alloc (.cells #[.int .i64 s] 3)).alloc (.cells #[.int .i64 s, .int .i64 k] 60)).ownsRow n0 3 1 (.slice (some ⟨n1, 0, none⟩) 1 1) [s].length (ivals [s])) := ⟨by simp [ivals], Or.inr ⟨n1, 1, #[.int .i64 s], rfl, by omega, HRO0.out, Nat.le_refl _, by unfold maxLen; omega, rfl, rfl⟩⟩
  clear hn0 hn1 hn2 hD HRO0
  generalize ((w.alloc (.cells #[.slice A0 k0 c0, .slice A1 m1 c1, .slice A2 k2 c2, .slice A3 m3 c3, .slice A4 k4 c4, .int .i64 t0, .int .i64 t1, .int .i64 t2, .int .i64 t3, .int .i64 t4] 33)).alloc (.cells #[.int .i64 s] 3)).alloc (.cells #[.int .i64 s, .int .i64 k] 60) = W0 at *
  go_wp2_with fail
  go_loopw [11, 13] (fun t k9 wr => ∃ (i : Nat) (o : List Int) (e1 e2 : Int), i + 1 = o.length ∧ o.length ≤ m ∧ k9 = .int .i64 i ∧ Hid (wr.ownsRow n0 3 1 t o.length (ivals o) ∧ Below n0 w wr ∧ Row wr n0 33 #[.slice A0 k0 c0, .slice A1 m1 c1, .slice A2 k2 c2, .slice A3 m3 c3, .slice A4 k4 c4, .int .i64 t0, .int .i64 t1, .int .i64 t2, .int .i64 t3, .int .i64 t4] ∧ Row wr n2 60 #[.int .i64 e1, .int .i64 e2] ∧ r = walkGo L ts m (m - i) i o (e1, e2))) (fun _ k9 _ => m - (intOf k9).toNat)
  case atStart => exact ⟨0, [s], s, k, rfl, hm1, rfl, HO0.out, HB0.out, HRL0.out, HRE0.out, HR.out⟩
  case round =>
    obtain ⟨i, o, e1, e2, hio, hom, rfl, HJ⟩ := hrel
    obtain ⟨At, ct, hvt⟩ := own_slice HJ.out.1
    subst hvt
    by_cases hlt : o.length < m
    · have HVr : Hid (LayV wr D (.agg #[.slice A0 k0 c0, .slice A1 m1 c1, .slice A2 k2 c2, .slice A3 m3 c3, .slice A4 k4 c4, .int .i64 t0, .int .i64 t1, .int .i64 t2, .int .i64 t3, .int .i64 t4]) L) := HV.out.keep HJ.out.2.1 HN.out.2.2.2
      have hDr : D ≤ wr.heap.size := by have := HJ.out.2.1.size; have := HN.out; omega
      have p0 := HJ.out.2.2.1.cell 0; have p1 := HJ.out.2.2.1.cell 1; have p2 := HJ.out.2.2.1.cell 2; have p3 := HJ.out.2.2.1.cell 3; have p4 := HJ.out.2.2.1.cell 4; have p5 := HJ.out.2.2.1.cell 5; have p6 := HJ.out.2.2.1.cell 6; have p7 := HJ.out.2.2.1.cell 7; have p8 := HJ.out.2.2.1.cell 8; have p9 := HJ.out.2.2.1.cell 9
      simp only [List.getElem?_toArray, List.getElem?_cons_zero, List.getElem?_cons_succ] at p0 p1 p2 p3 p4 p5 p6 p7 p8 p9
      have f0 := HJ.out.2.2.2.1.cell 0; have f1 := HJ.out.2.2.2.1.cell 1
      simp only [List.getElem?_toArray, List.getElem?_cons_zero, List.getElem?_cons_succ] at f0 f1
      go_wp2_with fail
      refine (refAround_any wr D _ L e1 e2 HVr.out hDr HL.out).mono ?_; rintro e w1 ⟨v1, rfl, hp1, hb1⟩
      have HO1 := Lib.hid (own_below HJ.out.1 hb1)
      have HB1 : Hid (Below n0 w w1) := HJ.out.2.1.trans (hb1.mono (by have := HJ.out.2.2.1.lt; omega))
      have HRL1 := Lib.hid (Below.row hb1 HJ.out.2.2.1 HJ.out.2.2.1.lt)
      have HRE1 := Lib.hid (Below.row hb1 HJ.out.2.2.2.1 HJ.out.2.2.2.1.lt)
      obtain ⟨A5, c5, hv5, -⟩ := id hp1
      subst hv5
      have HP1 := Lib.hid hp1
      have HW := Lib.hid HJ.out.2.2.2.2
      clear hb1 hp1 f0 f1 p0 p1 p2 p3 p4 p5 p6 p7 p8 p9 HVr hDr HJ
      have HZ : Hid ((aroundL L (e1, e2)).length = 0 → r = o) := fun h0 => by rw [HW.out]; exact walk_none h0
      have HY : Hid (∀ z : Int × Int, (aroundL L (e1, e2))[turnK ts i (aroundL L (e1, e2)).length]? = some z → r = if o.contains z.1 then o else walkGo L ts m (m - (i + 1)) (i + 1) (o ++ [z.1]) (z.1, 1 - z.2)) := fun z hz => by
        have h0 := (List.getElem?_eq_some_iff.1 hz).1
        have h2 := (List.getElem?_eq_some_iff.1 hz).2
        have h1 := walk_step (L := L) (ts := ts) (m := m) (f := m - i) (i := i) (o := o) (e := (e1, e2)) (by omega) (by omega) h0
        rw [HW.out, h1, show m - i - 1 = m - (i + 1) by omega, h2]
      have hxl := aroundL_le L (e1, e2)
      have HSD := Lib.hid (aroundL_snd L (e1, e2))
      clear HW
      generalize aroundL L (e1, e2) = x at *
      by_cases hx0 : x.length = 0
      · have HE := Lib.hid (HZ.out hx0)
        have hx0i : (x.length : Int) = 0 := by omega
        clear HZ HY
        go_wp2_with fail
        go_ret
        rw [HE.out]
        exact ⟨_, rfl, by rw [← HN.out.1]; exact HO1.out, by rw [← HN.out.1]; exact HB1.out⟩
      · have hxp : 0 < x.length := by omega
        obtain ⟨K, hK⟩ : ∃ K, K = turnK ts i x.length := ⟨_, rfl⟩
        have hKx : K < x.length := by rw [hK]; exact turnK_lt _ _ _ hxp
        have HY2 := Lib.hid (HY.out x[K] (by rw [← hK]; exact List.getElem?_eq_getElem hKx))
        have HQ1 : Hid (o.contains x[K].1 = true → r = o) := fun hc => by rw [HY2.out, if_pos hc]
        have HQ2 : Hid (o.contains x[K].1 = false → r = walkGo L ts m (m - (i + 1)) (i + 1) (o ++ [x[K].1]) (x[K].1, 1 - x[K].2)) := fun hc => by rw [HY2.out, if_neg (by rw [hc]; decide)]
        have hsd := HSD.out x[K] (List.getElem_mem _)
        obtain ⟨b, o', hA, hbD, q0, q1⟩ := HP1.out.at K hKx
        subst hA
        clear HZ HY HY2
        obtain ⟨z, hz⟩ : ∃ z, x[K] = z := ⟨_, rfl⟩
        rw [hz] at q0 q1 HQ1 HQ2 hsd
        obtain ⟨z0, z1⟩ := z
        simp only at q0 q1 HQ1 HQ2 hsd
        have hxn : ¬ (x.length : Int) = 0 := by omega
        by_cases hit : i < ts.length
        · have hKe : K = ts[i] % x.length := by rw [hK]; unfold turnK; rw [if_pos hit]; simp [List.getD, hit]
          have hby := HBY.out ts[i] (List.getElem_mem _)
          obtain ⟨bt, ot, hAt, hbt, qt⟩ := (HT.out.below HB1.out HN.out.2.2.2).at (i := i) (u := .int .u8 (ts[i] : Int)) (bvals_get ts i hit)
          subst hAt
          generalize ts[i] = tv at *
          have hmod : ((tv : Int)).tmod (x.length : Int) = (K : Int) := by rw [hKe, Int.tmod_eq_emod_of_nonneg (by omega)]; omega
          have hmod2 : (tv : Int) % (x.length : Int) = (K : Int) := by rw [hKe]; omega
          have hwr : IntKind.i64.wrap (tv : Int) = (tv : Int) := IntWalk.i64_in _ (by omega)
          clear hK hKe
          go_wp2_with fail
          refine (refHas_any w1 w1.heap.size _ o z0 (Rd.of_own HO1.out) (by omega)).mono ?_; rintro e wh ⟨rfl, rfl⟩
          cases hc : o.contains z0 with
          | true =>
            have HE := Lib.hid (HQ1.out hc)
            clear HQ1 HQ2 hc
            go_wp2_with fail
            go_ret
            rw [HE.out]
            exact ⟨_, rfl, by rw [← HN.out.1]; exact HO1.out, by rw [← HN.out.1]; exact HB1.out⟩
          | false =>
            have HE := Lib.hid (HQ2.out hc)
            clear HQ1 HQ2 hc
            have HSN : Hid (ivals o ++ [.int .i64 z0] = ivals (o ++ [z0]) ∧ (o ++ [z0]).length = o.length + 1) := ⟨ivals_snoc' o z0, by simp⟩
            go_wp2_with (at_builtin; refine wpList_append_own _ rfl (.tmp 54) (.tmp 60) 42 rfl n0 3 i3 (.int .i64 0) 1 8 Tryz.underlying42 hi3 hz30 hz31 hz32 rfl (by decide) _ _ _ rfl (HO1.out.alloc _) ⟨w1.heap.size, 0, none⟩ 1 1 [.int .i64 z0] rfl rfl (one_new w1 3 _) (one_cell rfl) (by unfold maxLen; omega) (by omega) (by have := HB1.out.size; have := HN.out; simp; omega) ?_)
            intro v7 w7 hown7 hgrow7 _
            rw [HSN.out.1] at hown7
            have hba : Below n0 w (w1.alloc (.cells #[.int .i64 z0] 3)) := HB1.out.alloc (by have := HB1.out.size; have := HN.out; omega) _
            have hnb : ∀ kk, (Value.slice At o.length ct).ownBlock = some kk → kk ≠ n0 ∧ kk ≠ n2 := fun kk hkk => ⟨fun e => own_ne HO1.out HRL1.out (by decide) (by rw [hkk, e]), fun e => own_ne HO1.out HRE1.out (by decide) (by rw [hkk, e])⟩
            have HB7 : Hid (Below n0 w w7) := hba.grown hgrow7 (by have := hba.size; have := HN.out; omega) (fun kk hk => (HO1.out.lt kk hk).1)
            have HRL7 : Hid (Row w7 n0 33 #[.slice A0 k0 c0, .slice A1 m1 c1, .slice A2 k2 c2, .slice A3 m3 c3, .slice A4 k4 c4, .int .i64 t0, .int .i64 t1, .int .i64 t2, .int .i64 t3, .int .i64 t4]) := (HRL1.out.alloc _).grown hgrow7 (fun e => (hnb n0 e.symm).1 rfl)
            have HRE7 : Hid (Row w7 n2 60 #[.int .i64 e1, .int .i64 e2]) := (HRE1.out.alloc _).grown hgrow7 (fun e => (hnb n2 e.symm).2 rfl)
            have HP7 : Hid (Prs w7 w1.heap.size (.slice (some ⟨b, o', none⟩) x.length c5) x) := (HP1.out.mono (Nat.le_refl _) (fun kk hk => ((Below.refl w1.heap.size w1).alloc (Nat.le_refl _) (.cells #[.int .i64 z0] 3)).block kk hk)).grown (HO1.out.alloc _) (by decide) hgrow7
            have HO7 : Hid (w7.ownsRow n0 3 1 v7 (o ++ [z0]).length (ivals (o ++ [z0]))) := by rw [HSN.out.2]; exact hown7
            obtain ⟨A8, c8, hv8⟩ := own_slice hown7
            subst hv8
            clear hown7 hgrow7 hba hnb q0 q1
            obtain ⟨b2, o2, hA2, -, g0, g1⟩ := HP7.out.at K hKx
            injection hA2 with hA2
            injection hA2 with hb2 ho2
            subst hb2 ho2
            rw [hz] at g0 g1
            simp only at g0 g1
            go_upto_region 15 with (fail)
            go_still_tail 12, (by kernel_rfl)
            change wpList _ _ _ _ _ w7.drew
            have HB8 : Hid (Below n0 w w7.drew) := HB7.out.drew
            have HRL8 : Hid (Row w7.drew n0 33 #[.slice A0 k0 c0, .slice A1 m1 c1, .slice A2 k2 c2, .slice A3 m3 c3, .slice A4 k4 c4, .int .i64 t0, .int .i64 t1, .int .i64 t2, .int .i64 t3, .int .i64 t4]) := HRL7.out
            have HRE8 : Hid (Row w7.drew n2 60 #[.int .i64 e1, .int .i64 e2]) := HRE7.out
            have HO8 : Hid (w7.drew.ownsRow n0 3 1 (.slice A8 (o.length + 1) c8) (o ++ [z0]).length (ivals (o ++ [z0]))) := HO7.out
            clear HB7 HRL7 HRE7 HO7 HP7 g0 g1
            generalize w7.drew = wd at *
            have f0 := HRE8.out.cell 0; have f1 := HRE8.out.cell 1; have f2 := HRE8.out.frozen 0; have f3 := HRE8.out.frozen 1
            simp only [List.getElem?_toArray, List.getElem?_cons_zero, List.getElem?_cons_succ] at f0 f1
            have rs := (HRE8.out.set 0 (.int .i64 z0)).set 1 (.int .i64 (1 - z1))
            have HNX : Hid (((wd.setCell ⟨n2, 0, none⟩ (.int .i64 z0)).setCell ⟨n2, 1, none⟩ (.int .i64 (1 - z1))).ownsRow n0 3 1 (.slice A8 (o.length + 1) c8) (o ++ [z0]).length (ivals (o ++ [z0])) ∧ Below n0 w ((wd.setCell ⟨n2, 0, none⟩ (.int .i64 z0)).setCell ⟨n2, 1, none⟩ (.int .i64 (1 - z1))) ∧ Row ((wd.setCell ⟨n2, 0, none⟩ (.int .i64 z0)).setCell ⟨n2, 1, none⟩ (.int .i64 (1 - z1))) n0 33 #[.slice A0 k0 c0, .slice A1 m1 c1, .slice A2 k2 c2, .slice A3 m3 c3, .slice A4 k4 c4, .int .i64 t0, .int .i64 t1, .int .i64 t2, .int .i64 t3, .int .i64 t4] ∧ Row ((wd.setCell ⟨n2, 0, none⟩ (.int .i64 z0)).setCell ⟨n2, 1, none⟩ (.int .i64 (1 - z1))) n2 60 #[.int .i64 z0, .int .i64 (1 - z1)] ∧ r = walkGo L ts m (m - (i + 1)) (i + 1) (o ++ [z0]) (z0, 1 - z1)) := by
              have hfar := own_ne HO8.out HRE8.out (by decide)
              have h02 : n0 ≠ n2 := by have := HN.out; omega
              refine ⟨own_far (own_far HO8.out (fun e => hfar e.symm) _) (fun e => hfar e.symm) _, (HB8.out.setCell (p := ⟨n2, 0, none⟩) (by have := HN.out; simp; omega) _).setCell (p := ⟨n2, 1, none⟩) (by have := HN.out; simp; omega) _, (HRL8.out.far (p := ⟨n2, 0, none⟩) h02 _).far (p := ⟨n2, 1, none⟩) h02 _, rs, HE.out⟩
            clear rs HB8 HRL8 HRE8 HO8
            go_wp2_with fail
            go_roundw
            case rel => exact ⟨i + 1, o ++ [z0], z0, 1 - z1, by simp; omega, by simp; omega, by go_num, HNX⟩
            case measure => simp [intOf]; omega
        · have hKe : K = 0 := by rw [hK]; unfold turnK; rw [if_neg hit]
          subst hKe
          clear hK
          simp only [Nat.zero_mul, Nat.add_zero] at q0 q1
          go_wp2_with fail
          refine (refHas_any w1 w1.heap.size _ o z0 (Rd.of_own HO1.out) (by omega)).mono ?_; rintro e wh ⟨rfl, rfl⟩
          cases hc : o.contains z0 with
          | true =>
            have HE := Lib.hid (HQ1.out hc)
            clear HQ1 HQ2 hc
            go_wp2_with fail
            go_ret
            rw [HE.out]
            exact ⟨_, rfl, by rw [← HN.out.1]; exact HO1.out, by rw [← HN.out.1]; exact HB1.out⟩
          | false =>
            have HE := Lib.hid (HQ2.out hc)
            clear HQ1 HQ2 hc
            have HSN : Hid (ivals o ++ [.int .i64 z0] = ivals (o ++ [z0]) ∧ (o ++ [z0]).length = o.length + 1) := ⟨ivals_snoc' o z0, by simp⟩
            go_wp2_with (at_builtin; refine wpList_append_own _ rfl (.tmp 54) (.tmp 60) 42 rfl n0 3 i3 (.int .i64 0) 1 8 Tryz.underlying42 hi3 hz30 hz31 hz32 rfl (by decide) _ _ _ rfl (HO1.out.alloc _) ⟨w1.heap.size, 0, none⟩ 1 1 [.int .i64 z0] rfl rfl (one_new w1 3 _) (one_cell rfl) (by unfold maxLen; omega) (by omega) (by have := HB1.out.size; have := HN.out; simp; omega) ?_)
            intro v7 w7 hown7 hgrow7 _
            rw [HSN.out.1] at hown7
            have hba : Below n0 w (w1.alloc (.cells #[.int .i64 z0] 3)) := HB1.out.alloc (by have := HB1.out.size; have := HN.out; omega) _
            have hnb : ∀ kk, (Value.slice At o.length ct).ownBlock = some kk → kk ≠ n0 ∧ kk ≠ n2 := fun kk hkk => ⟨fun e => own_ne HO1.out HRL1.out (by decide) (by rw [hkk, e]), fun e => own_ne HO1.out HRE1.out (by decide) (by rw [hkk, e])⟩
            have HB7 : Hid (Below n0 w w7) := hba.grown hgrow7 (by have := hba.size; have := HN.out; omega) (fun kk hk => (HO1.out.lt kk hk).1)
            have HRL7 : Hid (Row w7 n0 33 #[.slice A0 k0 c0, .slice A1 m1 c1, .slice A2 k2 c2, .slice A3 m3 c3, .slice A4 k4 c4, .int .i64 t0, .int .i64 t1, .int .i64 t2, .int .i64 t3, .int .i64 t4]) := (HRL1.out.alloc _).grown hgrow7 (fun e => (hnb n0 e.symm).1 rfl)
            have HRE7 : Hid (Row w7 n2 60 #[.int .i64 e1, .int .i64 e2]) := (HRE1.out.alloc _).grown hgrow7 (fun e => (hnb n2 e.symm).2 rfl)
            have HP7 : Hid (Prs w7 w1.heap.size (.slice (some ⟨b, o', none⟩) x.length c5) x) := (HP1.out.mono (Nat.le_refl _) (fun kk hk => ((Below.refl w1.heap.size w1).alloc (Nat.le_refl _) (.cells #[.int .i64 z0] 3)).block kk hk)).grown (HO1.out.alloc _) (by decide) hgrow7
            have HO7 : Hid (w7.ownsRow n0 3 1 v7 (o ++ [z0]).length (ivals (o ++ [z0]))) := by rw [HSN.out.2]; exact hown7
            obtain ⟨A8, c8, hv8⟩ := own_slice hown7
            subst hv8
            clear hown7 hgrow7 hba hnb q0 q1
            obtain ⟨b2, o2, hA2, -, g0, g1⟩ := HP7.out.at 0 hKx
            injection hA2 with hA2
            injection hA2 with hb2 ho2
            subst hb2 ho2
            rw [hz] at g0 g1
            simp only [Nat.zero_mul, Nat.add_zero] at g0 g1
            go_upto_region 15 with (fail)
            go_still_tail 12, (by kernel_rfl)
            change wpList _ _ _ _ _ w7.drew
            have HB8 : Hid (Below n0 w w7.drew) := HB7.out.drew
            have HRL8 : Hid (Row w7.drew n0 33 #[.slice A0 k0 c0, .slice A1 m1 c1, .slice A2 k2 c2, .slice A3 m3 c3, .slice A4 k4 c4, .int .i64 t0, .int .i64 t1, .int .i64 t2, .int .i64 t3, .int .i64 t4]) := HRL7.out
            have HRE8 : Hid (Row w7.drew n2 60 #[.int .i64 e1, .int .i64 e2]) := HRE7.out
            have HO8 : Hid (w7.drew.ownsRow n0 3 1 (.slice A8 (o.length + 1) c8) (o ++ [z0]).length (ivals (o ++ [z0]))) := HO7.out
            clear HB7 HRL7 HRE7 HO7 HP7 g0 g1
            generalize w7.drew = wd at *
            have f0 := HRE8.out.cell 0; have f1 := HRE8.out.cell 1; have f2 := HRE8.out.frozen 0; have f3 := HRE8.out.frozen 1
            simp only [List.getElem?_toArray, List.getElem?_cons_zero, List.getElem?_cons_succ] at f0 f1
            have rs := (HRE8.out.set 0 (.int .i64 z0)).set 1 (.int .i64 (1 - z1))
            have HNX : Hid (((wd.setCell ⟨n2, 0, none⟩ (.int .i64 z0)).setCell ⟨n2, 1, none⟩ (.int .i64 (1 - z1))).ownsRow n0 3 1 (.slice A8 (o.length + 1) c8) (o ++ [z0]).length (ivals (o ++ [z0])) ∧ Below n0 w ((wd.setCell ⟨n2, 0, none⟩ (.int .i64 z0)).setCell ⟨n2, 1, none⟩ (.int .i64 (1 - z1))) ∧ Row ((wd.setCell ⟨n2, 0, none⟩ (.int .i64 z0)).setCell ⟨n2, 1, none⟩ (.int .i64 (1 - z1))) n0 33 #[.slice A0 k0 c0, .slice A1 m1 c1, .slice A2 k2 c2, .slice A3 m3 c3, .slice A4 k4 c4, .int .i64 t0, .int .i64 t1, .int .i64 t2, .int .i64 t3, .int .i64 t4] ∧ Row ((wd.setCell ⟨n2, 0, none⟩ (.int .i64 z0)).setCell ⟨n2, 1, none⟩ (.int .i64 (1 - z1))) n2 60 #[.int .i64 z0, .int .i64 (1 - z1)] ∧ r = walkGo L ts m (m - (i + 1)) (i + 1) (o ++ [z0]) (z0, 1 - z1)) := by
              have hfar := own_ne HO8.out HRE8.out (by decide)
              have h02 : n0 ≠ n2 := by have := HN.out; omega
              refine ⟨own_far (own_far HO8.out (fun e => hfar e.symm) _) (fun e => hfar e.symm) _, (HB8.out.setCell (p := ⟨n2, 0, none⟩) (by have := HN.out; simp; omega) _).setCell (p := ⟨n2, 1, none⟩) (by have := HN.out; simp; omega) _, (HRL8.out.far (p := ⟨n2, 0, none⟩) h02 _).far (p := ⟨n2, 1, none⟩) h02 _, rs, HE.out⟩
            clear rs HB8 HRL8 HRE8 HO8
            go_wp2_with fail
            go_roundw
            case rel => exact ⟨i + 1, o ++ [z0], z0, 1 - z1, by simp; omega, by simp; omega, by go_num, HNX⟩
            case measure => simp [intOf]; omega
    · have HE : Hid (r = o) := by show _ = _; rw [HJ.out.2.2.2.2]; exact walk_stop (by omega)
      go_wp2_with fail
      go_ret
      rw [HE.out]
      exact ⟨_, rfl, by rw [← HN.out.1]; exact HJ.out.1, by rw [← HN.out.1]; exact HJ.out.2.1⟩

end Go.Proofs.YtagkgejdammflaaGreat
