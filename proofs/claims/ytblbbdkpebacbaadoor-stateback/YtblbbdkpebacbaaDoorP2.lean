/- Contract of the law: views. -/
import Derived.Test.YtblbbdkpebacbaaDoorP1
namespace Go.Proofs.YtblbbdkpebacbaaDoor
open Go.RowKit Fl
set_option maxRecDepth 100000

theorem Tryd.info67n : (Tryd.prog.info? 73).map (fun i => (i.zero, i.size, i.bytes)) = some (some (.agg #[.int .i64 0, .bool false, .slice none 0 0]), 3, 40) := by kernel_rfl
theorem Tryd.info55n : (Tryd.prog.info? 53).map (fun i => (i.zero, i.size, i.bytes)) = some (some (.agg #[.int .i64 0, .bool false, .slice none 0 0]), 3, 40) := by kernel_rfl
theorem three_new (w : World) (t : TypeId) (x y z : Value) : ∀ j u, [x, y, z][j]? = some u → (w.alloc (.cells #[x, y, z] t)).cell? ((⟨w.heap.size, 0, none⟩ : Addr).add j) = some u := by
  intro j u hu
  rw [add_at, Nat.zero_add, (Row.new w t #[x, y, z]).cell j]
  simpa using hu
theorem three_cell (a : Int) (b : Bool) (A : Option Addr) (k c : Nat) : ∀ u ∈ [Value.int .i64 a, .bool b, .slice A k c], u.oneCell' = true := by
  intro u hu; simp at hu; rcases hu with rfl | rfl | rfl <;> rfl

/-- What views answers. -/
def RetVws (xs : List Vw) (w : World) (e : Ending) (w' : World) : Prop :=
  ∃ A c A' c', e = .returned (.tuple #[.slice A xs.length c, .slice A' xs.length c']) ∧ Vws w' w'.heap.size (.slice A xs.length c) xs ∧ Vws w' w'.heap.size (.slice A' xs.length c') xs ∧ Below w.heap.size w w'

set_option maxHeartbeats 8000000 in
theorem views_any (w : World) (vl : Value) (L : Lay) (Ao Ac Av : Option Addr) (no nc nv co cc cv : Nat) (f : Fd) (hlay : LayV w w.heap.size vl L) (hL : Fits L) (hs0 : 0 < L.secs.length) (h : Lks w w.heap.size (.slice Av nv cv) f.vws) (hn : f.vws.length = nv) (hok : FdOk f) (hfew : f.vws.length ≤ 6 ∧ ∀ v ∈ f.vws, v.2.2.length ≤ 14) :
    Calls Tryd.prog 14 #[vl, .agg (fcells Ao Ac Av no nc nv co cc cv)] w (RetVws (viewsO L.secs.length f.vws) w) := by
  obtain ⟨A0, k0, c0, A1, k1, c1, A2, k2, c2, A3, k3, c3, A4, k4, c4, t0, t1, t2, t3, t4, hvl, _, hk1, _, _⟩ := hlay.lens
  subst hvl
  have hb0 := below2 w (.cells #[.slice A0 k0 c0, .slice A1 k1 c1, .slice A2 k2 c2, .slice A3 k3 c3, .slice A4 k4 c4, .int .i64 t0, .int .i64 t1, .int .i64 t2, .int .i64 t3, .int .i64 t4] 39) (.cells (fcells Ao Ac Av no nc nv co cc cv) 30)
  have hr0 := (Row.new w 39 #[.slice A0 k0 c0, .slice A1 k1 c1, .slice A2 k2 c2, .slice A3 k3 c3, .slice A4 k4 c4, .int .i64 t0, .int .i64 t1, .int .i64 t2, .int .i64 t3, .int .i64 t4]).alloc (.cells (fcells Ao Ac Av no nc nv co cc cv) 30)
  have hr1 := Row.new (w.alloc (.cells #[.slice A0 k0 c0, .slice A1 k1 c1, .slice A2 k2 c2, .slice A3 k3 c3, .slice A4 k4 c4, .int .i64 t0, .int .i64 t1, .int .i64 t2, .int .i64 t3, .int .i64 t4] 39)) 30 (fcells Ao Ac Av no nc nv co cc cv)
  rw [World.size_alloc] at hr1
  have HS0 : Hid (VwSt w w.heap.size (w.heap.size + 1) #[.slice A0 k0 c0, .slice A1 k1 c1, .slice A2 k2 c2, .slice A3 k3 c3, .slice A4 k4 c4, .int .i64 t0, .int .i64 t1, .int .i64 t2, .int .i64 t3, .int .i64 t4] (fcells Ao Ac Av no nc nv co cc cv) (.slice none 0 0) (.slice none 0 0) [] [] ((w.alloc (.cells #[.slice A0 k0 c0, .slice A1 k1 c1, .slice A2 k2 c2, .slice A3 k3 c3, .slice A4 k4 c4, .int .i64 t0, .int .i64 t1, .int .i64 t2, .int .i64 t3, .int .i64 t4] 39)).alloc (.cells (fcells Ao Ac Av no nc nv co cc cv) 30))) :=
    ⟨World.ownsRow_nil _ _ _ _, World.ownsRow_nil _ _ _ _, (fun y hy => by simp at hy), (fun y hy => by simp at hy), hb0, hr0, hr1⟩
  have HO := Lib.hid h; have HK := Lib.hid hok; have HN := Lib.hid hn; have HFW := Lib.hid hfew
  have HK1 : Hid (L.secs.length = k1 ∧ 0 < k1 ∧ k1 ≤ 100) := ⟨hk1, by rw [← hk1]; exact hs0, by rw [← hk1]; exact hL.s⟩
  rw [hk1]
  clear hlay hb0 hL h hok hr0 hr1 hk1 hn hs0 hfew
  have hnv6 : nv ≤ 6 := by rw [← HN.out]; exact HFW.out.1
  have hk100 := HK1.out.2.2
  have hk1p := HK1.out.2.1
  obtain ⟨i3, hi3, hz30, hz31, hz32⟩ := info_parts Tryd.info3n
  obtain ⟨i6, hi6, hz60, hz61, hz62⟩ := info_parts Tryd.info67n
  obtain ⟨i5, hi5, hz50, hz51, hz52⟩ := info_parts Tryd.info55n
  go_enter Tryd.func14, Tryd.ntmps14
  go_upto_region 1 with (fail)
  obtain ⟨n0, hn0⟩ : ∃ n, n = w.heap.size := ⟨_, rfl⟩
  obtain ⟨n1, hn1⟩ : ∃ n, n = n0 + 1 := ⟨_, rfl⟩
  have HS1 : Hid (VwSt w n0 n1 #[.slice A0 k0 c0, .slice A1 k1 c1, .slice A2 k2 c2, .slice A3 k3 c3, .slice A4 k4 c4, .int .i64 t0, .int .i64 t1, .int .i64 t2, .int .i64 t3, .int .i64 t4] (fcells Ao Ac Av no nc nv co cc cv) (.slice none 0 0) (.slice none 0 0) [] [] ((w.alloc (.cells #[.slice A0 k0 c0, .slice A1 k1 c1, .slice A2 k2 c2, .slice A3 k3 c3, .slice A4 k4 c4, .int .i64 t0, .int .i64 t1, .int .i64 t2, .int .i64 t3, .int .i64 t4] 39)).alloc (.cells (fcells Ao Ac Av no nc nv co cc cv) 30))) := by
    rw [hn1, hn0]; exact HS0.out
  rw [← hn0]
  rw [← hn1]
  clear hn0 hn1 HS0
  generalize (w.alloc (.cells #[.slice A0 k0 c0, .slice A1 k1 c1, .slice A2 k2 c2, .slice A3 k3 c3, .slice A4 k4 c4, .int .i64 t0, .int .i64 t1, .int .i64 t2, .int .i64 t3, .int .i64 t4] 39)).alloc (.cells (fcells Ao Ac Av no nc nv co cc cv) 30) = W0 at *
  go_wp2_with fail
  go_loopw [6, 7, 8] (fun va vb k wr => ∃ (i : Nat) (ys : List Vy), i ≤ nv ∧ k = .int .i64 i ∧ ys.length ≤ i ∧ Hid (yvs ys = viewsO k1 (f.vws.take i) ∧ VwSt w n0 n1 #[.slice A0 k0 c0, .slice A1 k1 c1, .slice A2 k2 c2, .slice A3 k3 c3, .slice A4 k4 c4, .int .i64 t0, .int .i64 t1, .int .i64 t2, .int .i64 t3, .int .i64 t4] (fcells Ao Ac Av no nc nv co cc cv) va vb ys ys wr)) (fun _ _ k _ => nv - (intOf k).toNat)
  case atStart => exact ⟨0, [], Nat.zero_le _, rfl, Nat.zero_le _, by simp [yvs, viewsO], HS1.out⟩
  case round =>
    obtain ⟨i, ys, hi, rfl, hyl, HJ⟩ := hrel
    obtain ⟨Aa, ca, hva⟩ := own_slice HJ.out.2.oa
    obtain ⟨Ab, cb, hvb⟩ := own_slice HJ.out.2.ob
    subst hva hvb
    clear HS1
    have f2 := HJ.out.2.rof.cell 2
    simp only [List.getElem?_toArray, List.getElem?_cons_zero, List.getElem?_cons_succ] at f2
    by_cases hlt : i < nv
    · have hli : (i : Int) < (nv : Int) := by omega
      have him : i < f.vws.length := by have := HN.out; omega
      have HVS : Hid (viewsO k1 (f.vws.take (i + 1)) = viewsS k1 (yvs ys) f.vws[i]) := by show _ = _; rw [viewsO_take k1 f.vws i him, HJ.out.1]
      obtain ⟨b, o, A5, c5, hA, hb, q0, q1, q2, h4⟩ := (HO.out.below HJ.out.2.bel (Nat.le_refl _)).at i him
      subst hA
      have hkk := HK.out.vws _ (List.getElem_mem him)
      have hkl := HFW.out.2 _ (List.getElem_mem him)
      have HLC : Hid (∀ V, Below w.heap.size w V → V.cell? ⟨b, o + i * 3, none⟩ = some (.int .u8 (f.vws[i].1 : Int)) ∧ V.cell? ⟨b, o + i * 3 + 1, none⟩ = some (.bool f.vws[i].2.1) ∧ V.cell? ⟨b, o + i * 3 + 2, none⟩ = some (.slice A5 f.vws[i].2.2.length c5) ∧ Rd V V.heap.size (.slice A5 f.vws[i].2.2.length c5) (bvals f.vws[i].2.2)) := fun V hV => by
        obtain ⟨b', o', A6, c6, hA', hb', p0, p1, p2, p4⟩ := (HO.out.below hV (Nat.le_refl _)).at i him
        injection hA' with hA'
        injection hA' with e1 e2
        subst e1 e2
        have h9 := (HJ.out.2.bel.cell (p := ⟨b, o + i * 3 + 2, none⟩) hb).symm
        have h8 := hV.cell (p := ⟨b, o + i * 3 + 2, none⟩) hb
        rw [q2] at h9
        rw [p2, h9] at h8
        injection h8 with h8
        injection h8 with e1 e2 e3
        subst e1 e3
        exact ⟨p0, p1, p2, p4.mono hV.size (fun _ _ => rfl)⟩
      clear q0 q1 q2 h4
      generalize f.vws[i] = kk at *
      obtain ⟨kid, ks, ksp⟩ := kk
      simp only at HLC hkk hkl
      have hx4 : (kid : Int).tmod 4 = ((kid % 4 : Nat) : Int) := by rw [Int.tmod_eq_emod_of_nonneg (by omega)]; omega
      have HVS2 : Hid (viewsS k1 (yvs ys) (kid, ks, ksp) = if (findV (yvs ys) ((kid % 4 : Nat) : Int)).isSome = true then yvs ys else yvs ys ++ [(((kid % 4 : Nat) : Int), ks, spanO k1 ksp)]) := rfl
      have hX4 : kid % 4 < 4 := Nat.mod_lt _ (by decide)
      obtain ⟨X, hX⟩ : ∃ X, kid % 4 = X := ⟨_, rfl⟩
      rw [hX] at hx4 HVS2 hX4
      clear hX
      obtain ⟨kl, hkle⟩ : ∃ n, ksp.length = n := ⟨_, rfl⟩
      have HKL := Lib.hid hkle
      rw [hkle] at HLC hkl
      clear hkle
      have q0 := (HLC.out wr HJ.out.2.bel).1
      have HFI := Lib.hid (refFind_any wr wr.heap.size _ (yvs ys) (X : Int) (Vws.of_own HJ.out.2.ob HJ.out.2.sb) (Nat.le_refl _) (by simp [yvs]; omega))
      go_wp2_with fail
      refine HFI.out.mono ?_; rintro e w2 ⟨A7, c7, rfl, -, hb2⟩
      have HS2 := Lib.hid (HJ.out.2.call hb2)
      have HY := Lib.hid HJ.out.1
      clear hb2 HFI q0 f2 HJ
      cases hfv : findV (yvs ys) (X : Int) with
      | some z =>
        have hv1 : viewsO k1 (f.vws.take (i + 1)) = yvs ys := by rw [HVS.out, HVS2.out, hfv]; rfl
        have HS3 : Hid (yvs ys = viewsO k1 (f.vws.take (i + 1)) ∧ VwSt w n0 n1 #[.slice A0 k0 c0, .slice A1 k1 c1, .slice A2 k2 c2, .slice A3 k3 c3, .slice A4 k4 c4, .int .i64 t0, .int .i64 t1, .int .i64 t2, .int .i64 t3, .int .i64 t4] (fcells Ao Ac (some ⟨b, o, none⟩) no nc nv co cc cv) (.slice Aa ys.length ca) (.slice Ab ys.length cb) ys ys (w2.alloc (.cells #[.int .i64 z.1, .bool z.2.1, .slice A7 z.2.2.length c7] 53))) := ⟨hv1.symm, HS2.out.call ((Below.refl _ _).alloc (Nat.le_refl _) _)⟩
        clear hv1 hfv
        go_upto_region 8 with (fail)
        generalize w2.alloc (.cells #[.int .i64 z.1, .bool z.2.1, .slice A7 z.2.2.length c7] 53) = w3 at *
        go_wp2_with fail
        go_roundw
        case rel => exact ⟨i + 1, ys, by omega, by go_num, by omega, HS3.out⟩
        case measure => simp [intOf]; omega
      | none =>
        have hv1 : viewsO k1 (f.vws.take (i + 1)) = yvs ys ++ [((X : Int), ks, spanO k1 ksp)] := by rw [HVS.out, HVS2.out, hfv]; rfl
        have HV1 := Lib.hid hv1
        have HS3 : Hid (VwSt w n0 n1 #[.slice A0 k0 c0, .slice A1 k1 c1, .slice A2 k2 c2, .slice A3 k3 c3, .slice A4 k4 c4, .int .i64 t0, .int .i64 t1, .int .i64 t2, .int .i64 t3, .int .i64 t4] (fcells Ao Ac (some ⟨b, o, none⟩) no nc nv co cc cv) (.slice Aa ys.length ca) (.slice Ab ys.length cb) ys ys (w2.alloc (.cells #[.int .i64 noV.1, .bool noV.2.1, .slice A7 noV.2.2.length c7] 53))) := HS2.out.call ((Below.refl _ _).alloc (Nat.le_refl _) _)
        clear hv1 hfv HVS HVS2
        go_upto_region 8 with (fail)
        generalize w2.alloc (.cells #[.int .i64 noV.1, .bool noV.2.1, .slice A7 noV.2.2.length c7] 53) = w3 at *
        go_wp2_with fail
        go_loopw [12, 13] (fun v12 k wq => ∃ (q : Nat) (sp : List Int), q ≤ kl ∧ k = .int .i64 q ∧ sp.length ≤ q ∧ Hid (sp = spanO k1 (ksp.take q) ∧ wq.ownsRow w3.heap.size 3 1 v12 sp.length (ivals sp) ∧ Below w3.heap.size w3 wq)) (fun _ k _ => kl - (intOf k).toNat)
        case atStart => exact ⟨0, [], Nat.zero_le _, rfl, Nat.zero_le _, by simp [spanO], World.ownsRow_nil _ _ _ _, Below.refl _ _⟩
        case round =>
          obtain ⟨q, sp, hq, rfl, hspl, HI⟩ := hrel
          obtain ⟨A9, c9, hv9⟩ := own_slice HI.out.2.1
          subst hv9
          have HSq := Lib.hid (HS3.out.call HI.out.2.2)
          have f2 := HSq.out.rof.cell 2
          have g1 := HSq.out.row.cell 1
          simp only [List.getElem?_toArray, List.getElem?_cons_zero, List.getElem?_cons_succ] at f2 g1
          have q2 := (HLC.out wr HSq.out.bel).2.2.1
          by_cases hql : q < kl
          · have hqli : (q : Int) < (kl : Int) := by omega
            have hqk : q < ksp.length := by have := HKL.out; omega
            have HST : Hid (spanO k1 (ksp.take (q + 1)) = spanS k1 sp ksp[q]) := by show _ = _; rw [spanO_take k1 ksp q hqk, HI.out.1]
            obtain ⟨bx, ox, hAx, hbx, qx⟩ := (HLC.out wr HSq.out.bel).2.2.2.at (i := q) (u := .int .u8 (ksp[q] : Int)) (by simp [bvals, hqk])
            subst hAx
            have hxs : (ksp[q] : Int).tmod (k1 : Int) = ((ksp[q] % k1 : Nat) : Int) := by rw [Int.tmod_eq_emod_of_nonneg (by omega)]; exact (Int.natCast_emod _ _).symm
            have HST2 : Hid (spanS k1 sp ksp[q] = if sp.contains ((ksp[q] % k1 : Nat) : Int) = true then sp else sp ++ [((ksp[q] % k1 : Nat) : Int)]) := rfl
            have hx2 := hkk.2 ksp[q] (List.getElem_mem hqk)
            have hxm := Nat.mod_lt ksp[q] hk1p
            generalize ksp[q] = x at *
            obtain ⟨Y, hY⟩ : ∃ Y, x % k1 = Y := ⟨_, rfl⟩
            rw [hY] at hxs HST2 hxm
            clear hY
            have hk1z : ¬ (k1 : Int) = 0 := by omega
            have hxs2 : (x : Int) % (k1 : Int) = (Y : Int) := by rw [← hxs, Int.tmod_eq_emod_of_nonneg (by omega)]
            go_upto_region 13 with (fail)
            have HO9 := Lib.hid HI.out.2.1
            have HB9 := Lib.hid HI.out.2.2
            clear HI HSq
            go_quiet (fail)
            have hbq : Below wr.heap.size wr (wr.drewN nq) := Below.drewN (Below.refl _ _) _
            have HO8 := Lib.hid (own_below HO9.out hbq)
            have HB8 : Hid (Below w3.heap.size w3 (wr.drewN nq)) := HB9.out.trans (hbq.mono HB9.out.size)
            clear HO9 HB9 hbq f2 g1 q2 qx
            generalize wr.drewN nq = wd at *
            go_wp2_with fail
            refine (refHas_any wd wd.heap.size _ sp (Y : Int) (Rd.of_own HO8.out) (by omega)).mono ?_; rintro e w4 ⟨rfl, rfl⟩
            cases hcn : sp.contains (Y : Int) with
            | true =>
              have HT : Hid (sp = spanO k1 (ksp.take (q + 1))) := by show _ = _; rw [HST.out, HST2.out, hcn]; rfl
              clear HST HST2 hcn
              go_wp2_with fail
              go_roundw
              case rel => exact ⟨q + 1, sp, by omega, by go_num, by omega, HT.out, HO8.out, HB8.out⟩
              case measure => simp [intOf]; omega
            | false =>
              have HT : Hid (sp ++ [(Y : Int)] = spanO k1 (ksp.take (q + 1)) ∧ ivals sp ++ [.int .i64 (Y : Int)] = ivals (sp ++ [(Y : Int)]) ∧ (sp ++ [(Y : Int)]).length = sp.length + 1) := by
                refine ⟨?_, ivals_snoc' _ _, by simp⟩
                rw [HST.out, HST2.out, hcn]; rfl
              clear HST HST2 hcn
              go_wp2_with (at_builtin; refine wpList_append_own_at _ rfl (.tmp 66) (.tmp 68) 47 rfl w3.heap.size 3 i3 (.int .i64 0) 1 8 Tryd.underlying47 hi3 hz30 hz31 hz32 rfl (by decide) _ _ _ rfl (HO8.out.alloc _) ⟨wd.heap.size, 0, none⟩ 1 1 [.int .i64 (Y : Int)] rfl rfl (one_new wd 3 _) (one_cell rfl) (by unfold maxLen; omega) (by omega) (by have := HB8.out.size; simp; omega) ?_)
              intro v7 w7 hown7 hgrow7 _ _
              rw [HT.out.2.1] at hown7
              have hba : Below w3.heap.size w3 (wd.alloc (.cells #[.int .i64 (Y : Int)] 3)) := HB8.out.alloc HB8.out.size _
              have HNX : Hid (sp ++ [(Y : Int)] = spanO k1 (ksp.take (q + 1)) ∧ w7.ownsRow w3.heap.size 3 1 v7 (sp ++ [(Y : Int)]).length (ivals (sp ++ [(Y : Int)])) ∧ Below w3.heap.size w3 w7) :=
                ⟨HT.out.1, by rw [HT.out.2.2]; exact hown7, hba.grown hgrow7 (by have := hba.size; omega) (fun kk hk => (HO8.out.lt kk hk).1)⟩
              have hl7 := HT.out.2.2
              clear hown7 hgrow7 hba HT HO8 HB8
              go_wp2_with fail
              go_roundw
              case rel => exact ⟨q + 1, sp ++ [(Y : Int)], by omega, by go_num, by omega, HNX.out⟩
              case measure => simp [intOf]; omega
          · have hqli : ¬ (q : Int) < (kl : Int) := by omega
            have hqe : q = kl := by omega
            subst hqe
            have HSP : Hid (sp = spanO k1 ksp) := by
              show _ = _
              have := HI.out.1
              rwa [List.take_of_length_le (by have := HKL.out; omega)] at this
            have hsz3 := HSq.out.bel.size
            have HOS : Hid (wr.ownsRow w.heap.size 3 1 (.slice A9 sp.length c9) sp.length (ivals sp)) := Go.Joins.ownsRow_le HI.out.2.1 HS3.out.bel.size
            have q1 := (HLC.out wr HSq.out.bel).2.1
            clear HI g1 HS3
            have hpA := fun v' W' => HSq.out.putA (v' := v') (W' := W') (y := ((((X : Int), ks, sp), .slice A9 sp.length c9) : Vy)) HOS.out
            have HPA := Lib.hid hpA
            have HOA := Lib.hid HSq.out.oa
            have hsz := hsz3
            clear hpA HSq HOS hsz3
            go_upto_region 16 with (fail)
            clear q2
            go_upto_region 17 with (at_builtin; refine wpList_append_own_at _ rfl (.tmp 70) (.tmp 80) 41 rfl w.heap.size 73 i6 (.agg #[.int .i64 0, .bool false, .slice none 0 0]) 3 40 Tryd.underlying41 hi6 hz60 hz61 hz62 rfl (by decide) _ _ _ rfl (HOA.out.alloc _) ⟨wr.heap.size, 0, none⟩ 1 1 [.int .i64 (X : Int), .bool ks, .slice A9 sp.length c9] rfl rfl (three_new wr 73 _ _ _) (three_cell _ _ _ _ _) (by unfold maxLen; omega) (by omega) (by simp; omega) ?_)
            intro v7 w7 hown7 hgrow7 _ _
            obtain ⟨hs7, ho7⟩ := HPA.out _ _ hown7 hgrow7
            have HOB := Lib.hid hs7.ob
            have hpb := fun v' W' => hs7.putB (v' := v') (W' := W') (y := ((((X : Int), ks, sp), .slice A9 sp.length c9) : Vy)) ho7
            have HPB := Lib.hid hpb
            have hsz7 := hs7.bel.size
            have g2 := hs7.rof.cell 2
            simp only [List.getElem?_toArray, List.getElem?_cons_zero, List.getElem?_cons_succ] at g2
            have q7 := (HLC.out w7 hs7.bel).2.1
            clear hown7 hgrow7 HPA HOA hs7 ho7 hpb f2 q1
            go_upto_region 17 with (fail)
            go_wp2_with (at_builtin; refine wpList_append_own_at _ rfl (.tmp 82) (.tmp 92) 42 rfl w.heap.size 53 i5 (.agg #[.int .i64 0, .bool false, .slice none 0 0]) 3 40 Tryd.underlying42 hi5 hz50 hz51 hz52 rfl (by decide) _ _ _ rfl (HOB.out.alloc _) ⟨w7.heap.size, 0, none⟩ 1 1 [.int .i64 (X : Int), .bool ks, .slice A9 sp.length c9] rfl rfl (three_new w7 53 _ _ _) (three_cell _ _ _ _ _) (by unfold maxLen; omega) (by omega) (by simp; omega) ?_)
            intro v8 w8 hown8 hgrow8 _ _
            have HS8 := Lib.hid (HPB.out _ _ hown8 hgrow8)
            have HY8 : Hid (yvs (ys ++ [((((X : Int), ks, sp), .slice A9 sp.length c9) : Vy)]) = viewsO k1 (f.vws.take (i + 1))) := by
              show _ = _
              rw [HV1.out, ← HSP.out]; simp [yvs]
            clear hown8 hgrow8 HPB HOB g2 q7
            go_wp2_with fail
            go_roundw
            case rel => exact ⟨i + 1, ys ++ [((((X : Int), ks, sp), .slice A9 sp.length c9) : Vy)], by omega, by go_num, by simp; omega, HY8.out, HS8.out⟩
            case measure => simp [intOf]; omega
    · have hin : i = nv := by omega
      subst hin
      go_wp2_with fail
      go_ret2
      have hy := HJ.out.1
      rw [← HN.out, List.take_length] at hy
      rw [← hy]
      have hyl2 : (yvs ys).length = ys.length := by simp [yvs]
      have ha := Vws.of_own HJ.out.2.oa HJ.out.2.sa
      have hb := Vws.of_own HJ.out.2.ob HJ.out.2.sb
      exact ⟨Aa, ca, Ab, cb, by rw [hyl2]; rfl, by rw [hyl2]; exact ha, by rw [hyl2]; exact hb, HJ.out.2.bel⟩
end Go.Proofs.YtblbbdkpebacbaaDoor
