/- Contract: Rough, whose lists lie in blocks of their kinds, and whose nodes are its own. Lists of sections, points and rows put behind a slice that the call owns. -/
import Derived.Test.YthpfhcelmddjlaaRm
import Derived.Test.YthpfhcelmddjlaaMake3
namespace Go.Proofs.Ythpfhcelmddjlaa
open Go.RowKit Fl
set_option maxRecDepth 100000

theorem IsNodesO.base {w : World} {b b' : Nat} {v : Value} {zs : List (Int × Int)} (h : IsNodesO w b v zs) (hb : b' ≤ b) : IsNodesO w b' v zs := by
  obtain ⟨ps, h1, h2⟩ := h; exact ⟨ps, own_base h1 hb, h2⟩

/-- What Rough hands back. -/
def RetRough (d : Dr) (w : World) (e : Ending) (w' : World) : Prop :=
  ∃ vN vS vP vQ vR, e = .returned (.agg #[vN, vS, vP, vQ, vR, .int .i64 (roughL d).speed, .int .i64 (roughL d).mute, .int .i64 (roughL d).wait, .int .i64 (roughL d).cancel, .int .i64 (roughL d).stay]) ∧ Five w' vN vS vP vQ vR (roughL d) ∧ IsNodesO w' w.heap.size vN (roughL d).nodes ∧ Below w.heap.size w w'

set_option maxHeartbeats 8000000 in
theorem roughO_of (hmake : ∀ (w : World) (d : Dr) (vr : Value), DrOk d → BRows w w.heap.size vr d.routes → Calls Try.prog 21 #[drV d vr] w (RetMakeO d w)) (w : World) (d : Dr) (vr : Value) (hd : DrOk d) (h : BRows w w.heap.size vr d.routes) (hl : d.routes.length ≤ 20) (hrl : ∀ r ∈ d.routes, r.length ≤ 10) :
    Calls Try.prog 11 #[drV d vr] w (RetRough d w) := by
  have HH := Lib.hid h
  obtain ⟨vs, hv, hvl, hve⟩ := h
  obtain ⟨Ar, cr, rfl, h0, hx⟩ := hv
  obtain ⟨kr, hkr⟩ : ∃ k, k = d.routes.length := ⟨_, rfl⟩
  have HVL := Lib.hid hvl
  rw [hvl] at hx HH ⊢
  rw [← hkr] at hx HH hl ⊢
  have HK := Lib.hid hkr; have HX := Lib.hid hx; have HVE := Lib.hid hve; have HRL := Lib.hid hrl
  have HMK := Lib.hid hmake
  have HD := Lib.hid hd
  clear hkr hx hve hvl h0 hrl hmake hd
  unfold drV
  have HM := Lib.hid ((Row.new w 25 #[.int .u8 (d.form : Int), .int .u8 (d.len : Int), .int .u8 (d.speed : Int), .int .u16 (d.mute : Int), .int .u16 (d.wait : Int), .int .u8 (d.cancel : Int), .int .u8 (d.stay : Int), .int .u8 (d.join : Int), .slice Ar kr cr]).alloc (.cells #[.slice none 0 0, .slice none 0 0, .slice none 0 0, .slice none 0 0, .slice none 0 0, .int .i64 0, .int .i64 0, .int .i64 0, .int .i64 0, .int .i64 0] 33))
  have HR := Lib.hid (Row.new (w.alloc (.cells #[.int .u8 (d.form : Int), .int .u8 (d.len : Int), .int .u8 (d.speed : Int), .int .u16 (d.mute : Int), .int .u16 (d.wait : Int), .int .u8 (d.cancel : Int), .int .u8 (d.stay : Int), .int .u8 (d.join : Int), .slice Ar kr cr] 25)) 33 #[.slice none 0 0, .slice none 0 0, .slice none 0 0, .slice none 0 0, .slice none 0 0, .int .i64 0, .int .i64 0, .int .i64 0, .int .i64 0, .int .i64 0])
  have HB := Lib.hid (((Below.refl w.heap.size w).alloc (Nat.le_refl _) (.cells #[.int .u8 (d.form : Int), .int .u8 (d.len : Int), .int .u8 (d.speed : Int), .int .u16 (d.mute : Int), .int .u16 (d.wait : Int), .int .u8 (d.cancel : Int), .int .u8 (d.stay : Int), .int .u8 (d.join : Int), .slice Ar kr cr] 25)).alloc (by simp) (.cells #[.slice none 0 0, .slice none 0 0, .slice none 0 0, .slice none 0 0, .slice none 0 0, .int .i64 0, .int .i64 0, .int .i64 0, .int .i64 0, .int .i64 0] 33))
  go_enter Try.func11, Try.ntmps11
  go_upto_region 1 with (fail)
  simp only [World.size_alloc] at HR
  generalize (w.alloc (.cells #[.int .u8 (d.form : Int), .int .u8 (d.len : Int), .int .u8 (d.speed : Int), .int .u16 (d.mute : Int), .int .u16 (d.wait : Int), .int .u8 (d.cancel : Int), .int .u8 (d.stay : Int), .int .u8 (d.join : Int), .slice Ar kr cr] 25)).alloc (.cells #[.slice none 0 0, .slice none 0 0, .slice none 0 0, .slice none 0 0, .slice none 0 0, .int .i64 0, .int .i64 0, .int .i64 0, .int .i64 0, .int .i64 0] 33) = W0 at *
  obtain ⟨n0, hn0⟩ : ∃ n, n = w.heap.size := ⟨_, rfl⟩
  obtain ⟨b1, hb1⟩ : ∃ n, n = n0 + 1 := ⟨_, rfl⟩
  rw [← hn0] at HM HB HR HH HX HVE ⊢
  rw [← hb1] at HR ⊢
  have HN : Hid (n0 = w.heap.size ∧ b1 = n0 + 1) := ⟨hn0, hb1⟩
  clear hn0 hb1
  have HBR : Hid (BRows W0 W0.heap.size (.slice Ar kr cr) d.routes) := HH.out.mono (by have := HB.out.size; have := HN.out; omega) (fun p hp => HB.out.cell (p := p) hp)
  have f0 := HM.out.cell 0
  have f1 := HM.out.cell 1
  have f2 := HM.out.cell 2
  have f3 := HM.out.cell 3
  have f4 := HM.out.cell 4
  have f5 := HM.out.cell 5
  have f6 := HM.out.cell 6
  have f7 := HM.out.cell 7
  have f8 := HM.out.cell 8
  simp only [List.getElem?_toArray, List.getElem?_cons_zero, List.getElem?_cons_succ] at f0 f1 f2 f3 f4 f5 f6 f7 f8
  go_wp2_with fail
  refine (HMK.out W0 d (.slice Ar kr cr) HD.out HBR.out).mono ?_
  rintro e w1 ⟨vN, vS, vP, vQ, rfl, hF, hb1, hown⟩
  obtain ⟨A0, c0, rfl⟩ := hF.n.slice
  obtain ⟨A1, c1, rfl⟩ := hF.s.slice
  obtain ⟨A2, c2, rfl⟩ := hF.p.slice
  obtain ⟨A3, c3, rfl⟩ := hF.q.slice
  obtain ⟨LM, hLM⟩ : ∃ L, L = makeL d := ⟨_, rfl⟩
  rw [← hLM] at hF hown ⊢
  have HLM := Lib.hid hLM
  have HF := Lib.hid hF; have HB1 := Lib.hid hb1; have HOW := Lib.hid (hown.base HB.out.size)
  clear hLM hF hb1 hown f0 f1 f2 f3 f4 f5 f6 f7 f8
  obtain ⟨t0, ht0⟩ : ∃ t, LM.speed = t := ⟨_, rfl⟩
  obtain ⟨t1, ht1⟩ : ∃ t, LM.mute = t := ⟨_, rfl⟩
  obtain ⟨t2, ht2⟩ : ∃ t, LM.wait = t := ⟨_, rfl⟩
  obtain ⟨t3, ht3⟩ : ∃ t, LM.cancel = t := ⟨_, rfl⟩
  obtain ⟨t4, ht4⟩ : ∃ t, LM.stay = t := ⟨_, rfl⟩
  obtain ⟨k0, hk0⟩ : ∃ t, LM.nodes.length = t := ⟨_, rfl⟩
  obtain ⟨k1, hk1⟩ : ∃ t, LM.secs.length = t := ⟨_, rfl⟩
  obtain ⟨k2, hk2⟩ : ∃ t, LM.parts.length = t := ⟨_, rfl⟩
  obtain ⟨k3, hk3⟩ : ∃ t, LM.points.length = t := ⟨_, rfl⟩
  have HT : Hid (LM.speed = t0 ∧ LM.mute = t1 ∧ LM.wait = t2 ∧ LM.cancel = t3 ∧ LM.stay = t4) := ⟨ht0, ht1, ht2, ht3, ht4⟩
  rw [hk0, hk1, hk2, hk3] at HF
  rw [hk0] at HOW
  rw [ht0, ht1, ht2, ht3, ht4, hk0, hk1, hk2, hk3]
  clear ht0 ht1 ht2 ht3 ht4 hk0 hk1 hk2 hk3
  have hb2 := (Below.refl w1.heap.size w1).alloc (Nat.le_refl _) (.cells #[.slice A0 k0 c0, .slice A1 k1 c1, .slice A2 k2 c2, .slice A3 k3 c3, .slice none 0 0, .int .i64 t0, .int .i64 t1, .int .i64 t2, .int .i64 t3, .int .i64 t4] 33)
  have HB2 : Hid (Below W0.heap.size W0 (w1.alloc (.cells #[.slice A0 k0 c0, .slice A1 k1 c1, .slice A2 k2 c2, .slice A3 k3 c3, .slice none 0 0, .int .i64 t0, .int .i64 t1, .int .i64 t2, .int .i64 t3, .int .i64 t4] 33))) := HB1.out.trans (hb2.mono HB1.out.size)
  have HR2 := Lib.hid (Row.new w1 33 #[.slice A0 k0 c0, .slice A1 k1 c1, .slice A2 k2 c2, .slice A3 k3 c3, .slice none 0 0, .int .i64 t0, .int .i64 t1, .int .i64 t2, .int .i64 t3, .int .i64 t4])
  have HF2 := Lib.hid (HF.out.kept (KeptL.of_below (S := []) hb2) (fun t _ k hk => by simp at hk)); have HOW2 := Lib.hid (HOW.out.kept (KeptL.of_below (S := []) hb2) (fun k hk => by simp at hk))
  have HW1 : Hid (W0.heap.size ≤ w1.heap.size) := HB1.out.size
  clear hb2
  go_upto_region 2 with (fail)
  obtain ⟨b3, hb3⟩ : ∃ n, n = w1.heap.size := ⟨_, rfl⟩
  rw [← hb3] at HR2 HW1 ⊢
  clear hb3
  generalize w1.alloc (.cells #[.slice A0 k0 c0, .slice A1 k1 c1, .slice A2 k2 c2, .slice A3 k3 c3, .slice none 0 0, .int .i64 t0, .int .i64 t1, .int .i64 t2, .int .i64 t3, .int .i64 t4] 33) = P at *
  have HMP : Hid (Mk P n0 b1 b3 #[.int .u8 (d.form : Int), .int .u8 (d.len : Int), .int .u8 (d.speed : Int), .int .u16 (d.mute : Int), .int .u16 (d.wait : Int), .int .u8 (d.cancel : Int), .int .u8 (d.stay : Int), .int .u8 (d.join : Int), .slice Ar kr cr] #[.slice A0 k0 c0, .slice A1 k1 c1, .slice A2 k2 c2, .slice A3 k3 c3, .slice none 0 0, .int .i64 t0, .int .i64 t1, .int .i64 t2, .int .i64 t3, .int .i64 t4]) := by
    have l1 := HM.out.lt; have l2 := HR.out.lt; have l3 := HW1.out; have l4 := HN.out
    exact ⟨Below.row HB2.out HM.out HM.out.lt, Below.row HB2.out HR.out HR.out.lt, HR2.out, by omega, by omega, by omega⟩
  have HBP : Hid (Below n0 w P) := HB.out.trans (HB2.out.mono (by have := HM.out.lt; omega))
  have HCP : Hid (∀ p : Addr, p.block < n0 → P.cell? p = w.cell? p) := fun p hp => HBP.out.cell (p := p) hp
  have HN3 : Hid (n0 < b3) := by show n0 < b3; have l1 := HM.out.lt; have l3 := HW1.out; omega
  clear HB HB1 HB2 HM HR HR2 HW1 HBR
  have HSP : Hid (n0 < P.heap.size ∧ b1 < P.heap.size ∧ b3 < P.heap.size) := ⟨HMP.out.dr.lt, HMP.out.res.lt, HMP.out.lay.lt⟩
  obtain ⟨i3, hi3, hz30, hz31, hz32⟩ := info_parts Try.info3
  obtain ⟨i5, hi5, hz50, hz51, hz52⟩ := info_parts Try.info51
  go_wp2_with fail
  go_loopw [4] (fun k wr => ∃ i : Nat, i ≤ kr ∧ k = .int .i64 i ∧ Hid (∃ vR, Mk wr n0 b1 b3 #[.int .u8 (d.form : Int), .int .u8 (d.len : Int), .int .u8 (d.speed : Int), .int .u16 (d.mute : Int), .int .u16 (d.wait : Int), .int .u8 (d.cancel : Int), .int .u8 (d.stay : Int), .int .u8 (d.join : Int), .slice Ar kr cr] #[.slice A0 k0 c0, .slice A1 k1 c1, .slice A2 k2 c2, .slice A3 k3 c3, vR, .int .i64 t0, .int .i64 t1, .int .i64 t2, .int .i64 t3, .int .i64 t4] ∧ OwnRows wr P.heap.size vR (routesOf (d.routes.take i)) ∧ KeptL [b3] P wr)) (fun k _ => kr - (intOf k).toNat)
  case atStart => exact ⟨0, Nat.zero_le _, rfl, .slice none 0 0, HMP.out, OwnRows.nil _ _, KeptL.refl _ _⟩
  case round =>
    obtain ⟨i, hi, rfl, HJ⟩ := hrel
    obtain ⟨vR, hMk, ⟨us, hor⟩, hKp⟩ := HJ.out
    obtain ⟨A4, c4, hv4⟩ := own_slice hor.own
    subst hv4
    have HMI := Lib.hid hMk; have HOR := Lib.hid hor; have HKI := Lib.hid hKp
    clear hMk hor hKp HJ
    have g8 := HMI.out.dr.cell 8
    simp only [List.getElem?_toArray, List.getElem?_cons_zero, List.getElem?_cons_succ] at g8
    by_cases hlt : i < kr
    · have hiq : i < d.routes.length := by have := HK.out; omega
      have hiv : i < vs.length := by have := HVL.out; omega
      obtain ⟨b, o, rfl, hb, hc⟩ := HX.out (by omega)
      have HCW : Hid (∀ p : Addr, p.block < n0 → wr.cell? p = w.cell? p) := fun p hp => by
        have e : wr.heap[p.block]? = P.heap[p.block]? := HKI.out.block p.block (by have := HSP.out; omega) (by have := HN3.out; simp; omega)
        rw [← HCP.out p hp]
        simp only [World.cell?, e]
      have hcell : wr.cell? ⟨b, o + i, none⟩ = some vs[i] := (HCW.out ⟨b, o + i, none⟩ hb).trans (hc i _ (List.getElem?_eq_getElem hiv))
      have he := HVE.out i hiv hiq
      have hrl := HRL.out d.routes[i] (List.getElem_mem _)
      have HNXT : Hid (routesOf (d.routes.take i) ++ [ints d.routes[i]] = routesOf (d.routes.take (i + 1))) := routesOf_take d.routes i hiq
      have HBY : Hid (∀ x ∈ d.routes[i], x < 256) := HD.out.bytes _ (List.getElem_mem _)
      clear hc
      generalize vs[i] = z at *
      generalize d.routes[i] = r at *
      obtain ⟨B, cc, rfl, -, hx2⟩ := he
      simp only [bvals_length] at *
      have HX2 := Lib.hid hx2
      clear hx2
      obtain ⟨wL, hwL⟩ : ∃ x, x = wr := ⟨_, rfl⟩
      subst hwL
      have HG8 := Lib.hid g8; have HCE := Lib.hid hcell
      have HUS : Hid (us.length ≤ 20) := by show us.length ≤ 20; have h1 := HOR.out.len; unfold routesOf at h1; simp at h1; omega
      have hul : us.length ≤ 20 := HUS.out
      go_wp2_with fail
      clear g8 hcell
      go_loopw [5, 6] (fun t k wr => ∃ j : Nat, j ≤ r.length ∧ k = .int .i64 j ∧ Hid (wr.ownsRow wL.heap.size 3 1 t j (ivals (ints (r.take j))) ∧ KeptL [] wL wr)) (fun _ k _ => r.length - (intOf k).toNat)
      case atStart => exact ⟨0, Nat.zero_le _, rfl, World.ownsRow_nil _ _ _ _, KeptL.refl _ _⟩
      case round =>
        obtain ⟨j, hj, rfl, HE⟩ := hrel
        have e8 : wr.cell? ⟨n0, 8, none⟩ = some (.slice (some ⟨b, o, none⟩) kr cr) := by
          have e := HE.out.2.block n0 HMI.out.dr.lt (by simp)
          have := HG8.out; simp only [World.cell?] at this ⊢; rw [e]; exact this
        have ec : wr.cell? ⟨b, o + i, none⟩ = some (.slice B r.length cc) := by
          have e := HE.out.2.block b (by have := HSP.out; have := HKI.out.size; omega) (by simp)
          have := HCE.out; simp only [World.cell?] at this ⊢; rw [e]; exact this
        by_cases hlt2 : j < r.length
        · obtain ⟨b', o', rfl, hb', hc'⟩ := HX2.out (by omega)
          have hby := HBY.out r[j] (List.getElem_mem _)
          have ev : wr.cell? ⟨b', o' + j, none⟩ = some (.int .u8 (r[j] : Int)) := by
            have e := HE.out.2.block b' (by have := HSP.out; have := HKI.out.size; omega) (by simp)
            have h1 := hc' j _ (bvals_get r j hlt2)
            rw [← HCW.out ⟨b', o' + j, none⟩ hb'] at h1
            simp only [World.cell?] at h1 ⊢; rw [e]; exact h1
          have HSN : Hid (ivals (ints (r.take j)) ++ [.int .i64 (r[j] : Int)] = ivals (ints (r.take (j + 1)))) := by
            show _ = _
            rw [ivals_snoc', ints_take r j hlt2]
          clear hc'
          generalize r[j] = x at *
          have hx0 : IntKind.i64.wrap (x : Int) = (x : Int) := IntWalk.i64_in _ (by omega)
          go_wp2_with (at_builtin; refine wpList_append_own _ rfl (.tmp 26) (.tmp 36) 51 rfl wL.heap.size 3 i3 (.int .i64 0) 1 8 Try.underlying51 hi3 hz30 hz31 hz32 rfl (by decide) _ _ _ rfl (HE.out.1.alloc _) ⟨wr.heap.size, 0, none⟩ 1 1 [.int .i64 (x : Int)] rfl rfl (one_new wr 3 _) (one_cell rfl) (by unfold maxLen; omega) (by omega) (by have := HE.out.2.size; simp; omega) ?_)
          intro v5 w5 hown5 hgrow5 _
          rw [HSN.out] at hown5
          have hrb : ∀ k, u5.ownBlock = some k → wL.heap.size ≤ k := fun k hk => (HE.out.1.lt k hk).1
          have HNX : Hid (w5.ownsRow wL.heap.size 3 1 v5 (j + 1) (ivals (ints (r.take (j + 1)))) ∧ KeptL [] wL w5) := ⟨hown5, (HE.out.2.alloc _).grown hgrow5 hrb⟩
          clear hown5 hgrow5 hrb e8 ec ev hx0
          go_wp2_with fail
          go_roundw
          case rel => exact ⟨j + 1, by omega, by go_num, HNX⟩
          case measure => simp [intOf]; omega
        · have HJE : Hid (j = r.length) := by show _ = _; omega
          obtain ⟨wM, hwM⟩ : ∃ x, x = wr := ⟨_, rfl⟩
          subst hwM
          obtain ⟨Ax, cx, hx⟩ := own_slice HE.out.1
          subst hx
          have HEX := Lib.hid HE.out
          clear HE
          have HMM : Hid (Mk wM n0 b1 b3 #[.int .u8 (d.form : Int), .int .u8 (d.len : Int), .int .u8 (d.speed : Int), .int .u16 (d.mute : Int), .int .u16 (d.wait : Int), .int .u8 (d.cancel : Int), .int .u8 (d.stay : Int), .int .u8 (d.join : Int), .slice (some ⟨b, o, none⟩) kr cr] #[.slice A0 k0 c0, .slice A1 k1 c1, .slice A2 k2 c2, .slice A3 k3 c3, .slice A4 us.length c4, .int .i64 t0, .int .i64 t1, .int .i64 t2, .int .i64 t3, .int .i64 t4]) := HMI.out.kept HEX.out.2
          have HOM : Hid (ORows wM P.heap.size (.slice A4 us.length c4) us (routesOf (d.routes.take i))) := HOR.out.grown HEX.out.2.grownN (fun k hk => by cases hk)
          have HKM : Hid (KeptL [b3] P wM) := HKI.out.trans (HEX.out.2.mono (by simp))
          have f4 := HMM.out.lay.cell 4
          simp only [List.getElem?_toArray, List.getElem?_cons_zero, List.getElem?_cons_succ] at f4
          have HUX : Hid (wM.ownsRow P.heap.size 3 1 (.slice Ax j cx) (ints r).length (ivals (ints r))) := by
            have h1 := own_base HEX.out.1 HKI.out.size
            have h2 := HJE.out
            show wM.ownsRow P.heap.size 3 1 (.slice Ax j cx) (ints r).length (ivals (ints r))
            rw [ints_len, ← h2]
            have h3 : r.take j = r := by rw [h2]; exact List.take_length
            rw [h3] at h1
            exact h1
          have HFR : Hid (∀ g, (Value.slice Ax j cx).ownBlock = some g → ∀ q (h1 : q < us.length), us[q].ownBlock ≠ some g) := fun g hg q hq e => by
            have h1 := (HEX.out.1.lt g hg).1
            have h2 := ((HOR.out.row q hq (by rw [← HOR.out.len]; exact hq)).lt g e).2
            omega
          go_wp2_with (at_builtin; refine wpList_append_own _ rfl (.tmp 39) (.tmp 41) 30 rfl P.heap.size 51 i5 (.slice none 0 0) 1 24 Try.underlying30 hi5 hz50 hz51 hz52 rfl (by decide) _ _ _ rfl (HOM.out.own.alloc _) ⟨wM.heap.size, 0, none⟩ 1 1 [.slice Ax j cx] rfl rfl (one_new wM 51 _) (one_cell rfl) (by unfold maxLen; omega) (by omega) (by have := HKM.out.size; simp; omega) ?_)
          intro v5 w5 hown5 hgrow5 _
          obtain ⟨A5, c5, hv5⟩ := own_slice hown5
          subst hv5
          have hrb : ∀ k, (Value.slice A4 us.length c4).ownBlock = some k → P.heap.size ≤ k := fun k hk => (HOM.out.own.lt k hk).1
          have hpush := (HOM.out.alloc (.cells #[.slice Ax j cx] 51)).push (HUX.out.alloc _) HFR.out hown5 hgrow5
          have mk5 := (HMM.out.fresh ((Below.refl _ _).alloc (Nat.le_refl _) (.cells #[.slice Ax j cx] 51))).grown hgrow5 hrb HSP.out
          have kp5 : KeptL [b3] P w5 := (HKM.out.alloc _).grown hgrow5 hrb
          have g0 := mk5.lay.cell 4; have z0 := mk5.lay.frozen 4
          simp only [List.getElem?_toArray, List.getElem?_cons_zero, List.getElem?_cons_succ] at g0
          have HNX : Hid (∃ vR, Mk (w5.setCell ⟨b3, 4, none⟩ (.slice A5 (us.length + 1) c5)) n0 b1 b3 #[.int .u8 (d.form : Int), .int .u8 (d.len : Int), .int .u8 (d.speed : Int), .int .u16 (d.mute : Int), .int .u16 (d.wait : Int), .int .u8 (d.cancel : Int), .int .u8 (d.stay : Int), .int .u8 (d.join : Int), .slice (some ⟨b, o, none⟩) kr cr] #[.slice A0 k0 c0, .slice A1 k1 c1, .slice A2 k2 c2, .slice A3 k3 c3, vR, .int .i64 t0, .int .i64 t1, .int .i64 t2, .int .i64 t3, .int .i64 t4] ∧ OwnRows (w5.setCell ⟨b3, 4, none⟩ (.slice A5 (us.length + 1) c5)) P.heap.size vR (routesOf (d.routes.take (i + 1))) ∧ KeptL [b3] P (w5.setCell ⟨b3, 4, none⟩ (.slice A5 (us.length + 1) c5))) := ⟨_, mk5.set 4 _, ⟨_, by rw [← HNXT.out]; exact hpush.set (a := ⟨b3, 4, none⟩) HSP.out.2.2 _⟩, kp5.set (by simp) _⟩
          clear hown5 hgrow5 hrb mk5 kp5 hpush f4 e8 ec
          go_wp2_with fail
          go_roundw
          case rel => exact ⟨i + 1, by omega, by go_num, HNX⟩
          case measure => simp [intOf]; omega
    · have HIE : Hid (i = kr) := by show _ = _; omega
      obtain ⟨V5, hV5⟩ : ∃ x, x = wr := ⟨_, rfl⟩
      subst hV5
      have p0 := HMI.out.lay.cell 0; have q0 := HMI.out.res.cell 0; have r0 := HMI.out.res.frozen 0
      have p1 := HMI.out.lay.cell 1; have q1 := HMI.out.res.cell 1; have r1 := HMI.out.res.frozen 1
      have p2 := HMI.out.lay.cell 2; have q2 := HMI.out.res.cell 2; have r2 := HMI.out.res.frozen 2
      have p3 := HMI.out.lay.cell 3; have q3 := HMI.out.res.cell 3; have r3 := HMI.out.res.frozen 3
      have p4 := HMI.out.lay.cell 4; have q4 := HMI.out.res.cell 4; have r4 := HMI.out.res.frozen 4
      have p5 := HMI.out.lay.cell 5; have q5 := HMI.out.res.cell 5; have r5 := HMI.out.res.frozen 5
      have p6 := HMI.out.lay.cell 6; have q6 := HMI.out.res.cell 6; have r6 := HMI.out.res.frozen 6
      have p7 := HMI.out.lay.cell 7; have q7 := HMI.out.res.cell 7; have r7 := HMI.out.res.frozen 7
      have p8 := HMI.out.lay.cell 8; have q8 := HMI.out.res.cell 8; have r8 := HMI.out.res.frozen 8
      have p9 := HMI.out.lay.cell 9; have q9 := HMI.out.res.cell 9; have r9 := HMI.out.res.frozen 9
      simp only [List.getElem?_toArray, List.getElem?_cons_zero, List.getElem?_cons_succ] at p0 q0 p1 q1 p2 q2 p3 q3 p4 q4 p5 q5 p6 q6 p7 q7 p8 q8 p9 q9
      go_wp2_with fail
      obtain ⟨hrow, hbel, hkp⟩ := put10 HMI.out.res (.slice A0 k0 c0) (.slice A1 k1 c1) (.slice A2 k2 c2) (.slice A3 k3 c3) (.slice A4 us.length c4) (.int .i64 t0) (.int .i64 t1) (.int .i64 t2) (.int .i64 t3) (.int .i64 t4)
      refine bodyPost_ret (results_cell_row rfl _ _ b1 33 #[.slice A0 k0 c0, .slice A1 k1 c1, .slice A2 k2 c2, .slice A3 k3 c3, .slice A4 us.length c4, .int .i64 t0, .int .i64 t1, .int .i64 t2, .int .i64 t3, .int .i64 t4] (0, 0) _ rfl hrow Try.underlying33 rfl Try.size33) rfl ?_
      have up : ∀ k ∈ [b3], k ∈ [b3, b1] := by simp
      have k3 := (HKI.out.mono up).trans (hkp.mono (by simp))
      have o9 : ∀ t ∈ [47, 50, 51, 53, 3], Other P t [b3, b1] := by
        intro t ht
        simp only [List.mem_cons, List.not_mem_nil, or_false] at ht
        rcases ht with rfl | rfl | rfl | rfl | rfl <;> exact Other.two HMP.out.lay (by decide) HMP.out.res (by decide)
      have hF := HF2.out.kept k3 o9
      have hW := HOW2.out.kept k3 (o9 47 (by simp))
      have hR : IsRows _ (.slice A4 us.length c4) (routesOf (d.routes.take i)) := (OwnRows.is ⟨us, HOR.out⟩).kept hkp (Other.one HMI.out.res (by decide)) (Other.one HMI.out.res (by decide))
      have hR2 : routesOf (d.routes.take i) = (roughL d).routes := by
        have h1 := HIE.out; have h2 := HK.out
        rw [List.take_of_length_le (by omega)]; rfl
      rw [hR2] at hR
      have hL := HLM.out
      subst hL
      have e := HT.out
      refine ⟨_, _, _, _, _, ?_, ⟨hF.n, hF.s, hF.p, hF.q, hR⟩, ?_, ?_⟩
      · rw [← e.1, ← e.2.1, ← e.2.2.1, ← e.2.2.2.1, ← e.2.2.2.2]
        rfl
      · exact hW
      · have hn := HN.out
        rw [← hn.1]
        exact HBP.out.trans (k3.below (by have := HSP.out; omega) (by have := HN3.out; intro k hk; simp at hk; rcases hk with e | e <;> omega))


theorem roughO_any (w : World) (d : Dr) (vr : Value) (hd : DrOk d) (h : BRows w w.heap.size vr d.routes) (hs : small d = true) : Calls Try.prog 11 #[drV d vr] w (RetRough d w) := roughO_of makeDraft_own w d vr hd h (small_iff hs).1 (small_iff hs).2

end Go.Proofs.Ythpfhcelmddjlaa

namespace Go.Proofs.Ythpfhcelmddjlaa
open Go.RowKit
set_option maxRecDepth 100000

theorem Try.info50c : (Try.prog.info? 50).map (fun i => (i.zero, i.size, i.bytes)) = some (some (.agg #[.int .i64 0, .int .i64 0, .int .i64 0]), 3, 24) := by kernel_rfl
theorem Try.info53c : (Try.prog.info? 53).map (fun i => (i.zero, i.size, i.bytes)) = some (some (.agg #[.int .i64 0, .int .i64 0, .int .i64 0, .int .i64 0]), 4, 32) := by kernel_rfl
theorem Try.info51c : (Try.prog.info? 51).map (fun i => (i.zero, i.size, i.bytes)) = some (some (.slice none 0 0), 1, 24) := by kernel_rfl

theorem run_append_none_c {P : Program} {w : World} (base : Nat) (t ty e : TypeId) (i : TypeInfo) (size : Nat) (ht : P.underlying t = some (.slice e)) (hi : P.info? e = some i)
    (v : Value) (n c : Nat) (xs : List Value) (hown : w.ownsRow base e size v n xs) :
    (Builtin.append_ #[t, t] ty #[v, .slice none 0 c]).run P w = .ok v w := by
  rcases hown.2 with ⟨rfl, rfl⟩ | ⟨g, cap, cur, rfl, _, _, hnc, _⟩
  · simp [Builtin.append_, run_underlying ht, sizeOf, typeInfo, hi, Builtin.lenOf, Builtin.firstCells]
  · simp [Builtin.append_, run_underlying ht, sizeOf, typeInfo, hi, Builtin.lenOf, Builtin.firstCells, hnc, storeCells]

/-- What is put behind: so many elements, and their cells. -/
def SrcC (w : World) (y : Value) (m : Nat) (news : List Value) : Prop :=
  (∃ ad c, y = .slice (some ad) m c ∧ ∀ j u, news[j]? = some u → w.cell? (ad.add j) = some u) ∨ ∃ c, y = .slice none 0 c ∧ m = 0 ∧ news = []

theorem app_src {P : Program} {w : World} {ops : Array Oper} {rest : List Oper} {o : Oper} {a : Act} {Q : Exit → Act → World → Prop} (hgd : o.guard = none) (s x : Operand) (t : TypeId)
    (ho : o.op = .call { callee := .builtin .append, args := #[s, x], argTypes := #[t, t] })
    (base : Nat) (e : TypeId) (i : TypeInfo) (z : Value) (size bytes : Nat) (ht : P.underlying t = some (.slice e)) (hi : P.info? e = some i) (hz : i.zero = some z)
    (hsize : i.size = size) (hby : i.bytes = bytes) (hzs : z.cells.size = size) (hsz : 0 < size)
    (v : Value) (n : Nat) (xs : List Value) (hs : a.eval s = v) (hown : w.ownsRow base e size v n xs)
    (y : Value) (m : Nat) (news : List Value) (hx : a.eval x = y) (hy : SrcC w y m news) (hl : news.length = m * size) (h1 : ∀ u ∈ news, u.oneCell' = true)
    (h63 : n + m ≤ maxLen) (hbytes : (n + m) * bytes ≤ 140737488355328) (hbase : base ≤ w.heap.size)
    (h : ∀ v' w', w'.ownsRow base e size v' (n + m) (xs ++ news) → w.grownBy w' v.ownBlock → wpList P ops Q rest (a.put o.dst v') w') : wpList P ops Q (o :: rest) a w := by
  rcases hy with ⟨ad, c, rfl, hc⟩ | ⟨c, rfl, rfl, rfl⟩
  · exact wpList_append_own w hgd s x t ho base e i z size bytes ht hi hz hsize hby hzs hsz v n xs hs hown ad m c news hx hl hc h1 h63 hbytes hbase (fun v' w' a1 a2 _ => h v' w' a1 a2)
  · refine wpList_plain hgd fun K hK => ?_
    have hrun := run_append_none_c (P := P) (w := w) base t o.type e i size ht hi v n c xs hown
    unfold Oper.wp
    simp [execOp, ho, resolve, invoke, builtin, hs, hx, hrun, Result.andThen]
    exact hK _ _ (h v w (by simpa using hown) ⟨rfl, rfl, rfl, Nat.le_refl _, fun _ _ _ => rfl⟩)

theorem scells_len (xs : List (Int × Int × Int)) : (scells xs).length = xs.length * 3 := by
  induction xs with
  | nil => rfl
  | cons x r ih => simp only [scells, List.flatMap_cons, List.length_append, List.length_cons, List.length_nil] at *; omega
theorem pcells_len (xs : List (Int × Int × Int × Int)) : (pcells xs).length = xs.length * 4 := by
  induction xs with
  | nil => rfl
  | cons x r ih => simp only [pcells, List.flatMap_cons, List.length_append, List.length_cons, List.length_nil] at *; omega
theorem scells_one (xs : List (Int × Int × Int)) : ∀ u ∈ scells xs, u.oneCell' = true := by
  intro u hu
  simp only [scells, List.mem_flatMap, List.mem_cons, List.not_mem_nil, or_false] at hu
  obtain ⟨s, _, h⟩ := hu
  rcases h with rfl | rfl | rfl <;> rfl
theorem pcells_one (xs : List (Int × Int × Int × Int)) : ∀ u ∈ pcells xs, u.oneCell' = true := by
  intro u hu
  simp only [pcells, List.mem_flatMap, List.mem_cons, List.not_mem_nil, or_false] at hu
  obtain ⟨s, _, h⟩ := hu
  rcases h with rfl | rfl | rfl | rfl <;> rfl

theorem secs_src {w : World} {A : Option Addr} {k c : Nat} {xs : List (Int × Int × Int)} (h : IsSecs w (.slice A k c) xs) : k = xs.length ∧ SrcC w (.slice A k c) k (scells xs) := by
  obtain ⟨A', c', hv, hx⟩ := h
  injection hv with e1 e2 e3
  subst e1 e2 e3
  refine ⟨rfl, ?_⟩
  cases A with
  | none =>
    right
    have hl : xs.length = 0 := by
      rcases Nat.eq_zero_or_pos xs.length with e0 | e0
      · exact e0
      · obtain ⟨b, cur, fr, e1, _⟩ := hx e0; cases e1
    have hxs : xs = [] := List.length_eq_zero_iff.1 hl
    subst hxs
    exact ⟨c, rfl, rfl, rfl⟩
  | some ad =>
    left
    refine ⟨ad, c, rfl, fun j u hu => ?_⟩
    have hjl := (List.getElem?_eq_some_iff.1 hu).1
    rw [scells_len] at hjl
    obtain ⟨b, cur, fr, e1, hh, hcell⟩ := hx (by omega)
    injection e1 with e1
    subst e1
    obtain ⟨f0, f1, f2⟩ := hcell (j / 3) (by omega)
    obtain ⟨g0, g1, g2⟩ := scells_get xs (j / 3) (by omega)
    have hc : ∀ q, w.cell? ((⟨b, 0, none⟩ : Addr).add q) = cur[q]? := fun q => by rw [add_at]; simp [World.cell?, hh]
    rw [hc]
    rcases (by omega : j = j / 3 * 3 ∨ j = j / 3 * 3 + 1 ∨ j = j / 3 * 3 + 2) with e | e | e
    · rw [e] at hu ⊢; rw [g0] at hu; rw [f0]; exact hu
    · rw [e] at hu ⊢; rw [g1] at hu; rw [f1]; exact hu
    · rw [e] at hu ⊢; rw [g2] at hu; rw [f2]; exact hu
theorem points_src {w : World} {A : Option Addr} {k c : Nat} {xs : List (Int × Int × Int × Int)} (h : IsPoints w (.slice A k c) xs) : k = xs.length ∧ SrcC w (.slice A k c) k (pcells xs) := by
  obtain ⟨A', c', hv, hx⟩ := h
  injection hv with e1 e2 e3
  subst e1 e2 e3
  refine ⟨rfl, ?_⟩
  cases A with
  | none =>
    right
    have hl : xs.length = 0 := by
      rcases Nat.eq_zero_or_pos xs.length with e0 | e0
      · exact e0
      · obtain ⟨b, cur, fr, e1, _⟩ := hx e0; cases e1
    have hxs : xs = [] := List.length_eq_zero_iff.1 hl
    subst hxs
    exact ⟨c, rfl, rfl, rfl⟩
  | some ad =>
    left
    refine ⟨ad, c, rfl, fun j u hu => ?_⟩
    have hjl := (List.getElem?_eq_some_iff.1 hu).1
    rw [pcells_len] at hjl
    obtain ⟨b, cur, fr, e1, hh, hcell⟩ := hx (by omega)
    injection e1 with e1
    subst e1
    obtain ⟨f0, f1, f2, f3⟩ := hcell (j / 4) (by omega)
    obtain ⟨g0, g1, g2, g3⟩ := pcells_get xs (j / 4) (by omega)
    have hc : ∀ q, w.cell? ((⟨b, 0, none⟩ : Addr).add q) = cur[q]? := fun q => by rw [add_at]; simp [World.cell?, hh]
    rw [hc]
    rcases (by omega : j = j / 4 * 4 ∨ j = j / 4 * 4 + 1 ∨ j = j / 4 * 4 + 2 ∨ j = j / 4 * 4 + 3) with e | e | e | e
    · rw [e] at hu ⊢; rw [g0] at hu; rw [f0]; exact hu
    · rw [e] at hu ⊢; rw [g1] at hu; rw [f1]; exact hu
    · rw [e] at hu ⊢; rw [g2] at hu; rw [f2]; exact hu
    · rw [e] at hu ⊢; rw [g3] at hu; rw [f3]; exact hu
theorem tl_src {w : World} {A : Option Addr} {k c : Nat} {t : TypeId} {vs : List Value} (h : Tl w t (.slice A k c) vs) : k = vs.length ∧ SrcC w (.slice A k c) k vs := by
  obtain ⟨A', c', hv, _, hx⟩ := h
  injection hv with e1 e2 e3
  subst e1 e2 e3
  refine ⟨rfl, ?_⟩
  cases A with
  | none =>
    right
    have hl : vs.length = 0 := by
      rcases Nat.eq_zero_or_pos vs.length with e0 | e0
      · exact e0
      · obtain ⟨b, o, cur, fr, e1, _⟩ := hx e0; cases e1
    have hxs : vs = [] := List.length_eq_zero_iff.1 hl
    subst hxs
    exact ⟨c, rfl, rfl, rfl⟩
  | some ad =>
    left
    refine ⟨ad, c, rfl, fun j u hu => ?_⟩
    have hjl := (List.getElem?_eq_some_iff.1 hu).1
    obtain ⟨b, o, cur, fr, e1, hh, hcell⟩ := hx (by omega)
    injection e1 with e1
    subst e1
    have hc : ∀ q, w.cell? ((⟨b, o, none⟩ : Addr).add q) = cur[o + q]? := fun q => by rw [add_at]; simp [World.cell?, hh]
    rw [hc]
    exact hcell j u hu

theorem FillS.head {cur : Array Value} {x : Int × Int × Int} {rest : List (Int × Int × Int)} {y : Int} (h : FillS cur (x :: rest)) : FillS (cur.setIfInBounds 0 (.int .i64 y)) ((y, x.2) :: rest) := by
  intro j hj
  have hj' : j < (x :: rest).length := by simpa using hj
  obtain ⟨a, b, c⟩ := h j hj'
  cases j with
  | zero =>
    have hs : 0 < cur.size := by
      rcases Nat.eq_zero_or_pos cur.size with e | e
      · have a' : cur[0]? = some (.int .i64 x.1) := by simpa using a
        rw [Array.getElem?_eq_none (by omega)] at a'
        cases a'
      · exact e
    refine ⟨?_, ?_, ?_⟩
    · simp [hs]
    · simpa [Array.getElem?_setIfInBounds] using b
    · simpa [Array.getElem?_setIfInBounds] using c
  | succ j =>
    refine ⟨?_, ?_, ?_⟩
    · rw [Array.getElem?_setIfInBounds_ne (by omega)]; simpa using a
    · rw [Array.getElem?_setIfInBounds_ne (by omega)]; simpa using b
    · rw [Array.getElem?_setIfInBounds_ne (by omega)]; simpa using c

end Go.Proofs.Ythpfhcelmddjlaa
