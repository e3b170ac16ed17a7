/- Contract: the document's Full: the layout of a draft, with its routes. -/
import Derived.Test.YtagkgejdammflaaGreatMake
import Derived.Test.YtagkgejdammflaaGreatFMath
import Derived.Test.YtagkgejdammflaaGreatWalk
namespace Go.Proofs.YtagkgejdammflaaGreat
open Go.RowKit Fl
set_option maxRecDepth 100000

theorem full_finish {w P V5 W6 : World} {d : Dr} {LM : Lay} {rs : List (List Int)} {n0 b1 b3 k0 k1 k2 k3 c0 c1 c2 c3 c4 : Nat} {A0 A1 A2 A3 A4 : Option Addr} {t0 t1 t2 t3 t4 : Int} {us : List Value} {D : Array Value}
    (hF2 : Five P (.slice A0 k0 c0) (.slice A1 k1 c1) (.slice A2 k2 c2) (.slice A3 k3 c3) (.slice none 0 0) LM)
    (hMP : Mk P n0 b1 b3 D #[.slice A0 k0 c0, .slice A1 k1 c1, .slice A2 k2 c2, .slice A3 k3 c3, .slice none 0 0, .int .i64 t0, .int .i64 t1, .int .i64 t2, .int .i64 t3, .int .i64 t4]) (hBP : Below n0 w P) (hSP : n0 < P.heap.size ∧ b1 < P.heap.size ∧ b3 < P.heap.size) (hN : n0 = w.heap.size ∧ b1 = n0 + 1) (hN3 : n0 < b3)
    (hKI : KeptL [b3] P V5) (hMI : Mk V5 n0 b1 b3 D #[.slice A0 k0 c0, .slice A1 k1 c1, .slice A2 k2 c2, .slice A3 k3 c3, .slice A4 us.length c4, .int .i64 t0, .int .i64 t1, .int .i64 t2, .int .i64 t3, .int .i64 t4]) (hOR : ORows V5 P.heap.size (.slice A4 us.length c4) us rs)
    (hLM : LM = makeL d) (hT : LM.speed = t0 ∧ LM.mute = t1 ∧ LM.wait = t2 ∧ LM.cancel = t3 ∧ LM.stay = t4) (hkp : KeptL [b1] V5 W6) (hRS : rs = (fullL d).routes) :
    RetLay (fullL d) w (.returned (.agg #[.slice A0 k0 c0, .slice A1 k1 c1, .slice A2 k2 c2, .slice A3 k3 c3, .slice A4 us.length c4, .int .i64 t0, .int .i64 t1, .int .i64 t2, .int .i64 t3, .int .i64 t4])) W6 := by
  have up : ∀ k ∈ [b3], k ∈ [b3, b1] := by simp
  have k3 := (hKI.mono up).trans (hkp.mono (by simp))
  have o9 : ∀ t ∈ [36, 39, 42, 41, 3], Other P t [b3, b1] := by
    intro t ht
    simp only [List.mem_cons, List.not_mem_nil, or_false] at ht
    rcases ht with rfl | rfl | rfl | rfl | rfl <;> exact Other.two hMP.lay (by decide) hMP.res (by decide)
  have hF := hF2.kept k3 o9
  have hR : IsRows _ (.slice A4 us.length c4) rs := (OwnRows.is ⟨us, hOR⟩).kept hkp (Other.one hMI.res (by decide)) (Other.one hMI.res (by decide))
  rw [hRS] at hR
  subst hLM
  refine ⟨_, rfl, ?_, ?_⟩
  · refine IsLay.v ⟨_, _, _, _, _, ?_, ⟨hF.n, hF.s, hF.p, hF.q, hR⟩⟩
    rw [← hT.1, ← hT.2.1, ← hT.2.2.1, ← hT.2.2.2.1, ← hT.2.2.2.2]
    rfl
  · rw [← hN.1]
    exact hBP.trans (k3.below (by omega) (by intro k hk; simp at hk; rcases hk with e | e <;> omega))

/-- The layout so far. -/
theorem full_lay {P V : World} {LM : Lay} {rs : List (List Int)} {n0 b1 b3 k0 k1 k2 k3 c0 c1 c2 c3 c4 : Nat} {A0 A1 A2 A3 A4 : Option Addr} {t0 t1 t2 t3 t4 : Int} {us : List Value} {D : Array Value}
    (hF2 : Five P (.slice A0 k0 c0) (.slice A1 k1 c1) (.slice A2 k2 c2) (.slice A3 k3 c3) (.slice none 0 0) LM)
    (hMP : Mk P n0 b1 b3 D #[.slice A0 k0 c0, .slice A1 k1 c1, .slice A2 k2 c2, .slice A3 k3 c3, .slice none 0 0, .int .i64 t0, .int .i64 t1, .int .i64 t2, .int .i64 t3, .int .i64 t4]) (hKI : KeptL [b3] P V) (hOR : ORows V P.heap.size (.slice A4 us.length c4) us rs)
    (hT : LM.speed = t0 ∧ LM.mute = t1 ∧ LM.wait = t2 ∧ LM.cancel = t3 ∧ LM.stay = t4) :
    LayV V V.heap.size (.agg #[.slice A0 k0 c0, .slice A1 k1 c1, .slice A2 k2 c2, .slice A3 k3 c3, .slice A4 us.length c4, .int .i64 t0, .int .i64 t1, .int .i64 t2, .int .i64 t3, .int .i64 t4]) { LM with routes := rs } := by
  have o9 : ∀ t ∈ [36, 39, 42, 41, 3], Other P t [b3] := by
    intro t ht
    simp only [List.mem_cons, List.not_mem_nil, or_false] at ht
    rcases ht with rfl | rfl | rfl | rfl | rfl <;> exact Other.one hMP.lay (by decide)
  have hF := hF2.kept hKI o9
  have hR : IsRows V (.slice A4 us.length c4) rs := OwnRows.is ⟨us, hOR⟩
  refine IsLay.v ⟨_, _, _, _, _, ?_, ⟨hF.n, hF.s, hF.p, hF.q, hR⟩⟩
  rw [← hT.1, ← hT.2.1, ← hT.2.2.1, ← hT.2.2.2.1, ← hT.2.2.2.2]

set_option maxHeartbeats 8000000 in
theorem full_any (w : World) (d : Dr) (vr : Value) (hd : DrOk d) (h : BRows w w.heap.size vr d.routes) (hs : small d = true) :
    Calls Tryz.prog 11 #[drV d vr] w (RetLay (fullL d) w) := by
  have HH := Lib.hid h
  have hl := (small_iff hs).1
  have hrl := (small_iff hs).2
  obtain ⟨vs, hv, hvl, hve⟩ := h
  obtain ⟨Ar, cr, rfl, h0, hx⟩ := hv
  obtain ⟨kr, hkr⟩ : ∃ k, k = d.routes.length := ⟨_, rfl⟩
  have HVL := Lib.hid hvl
  rw [hvl] at hx HH ⊢
  rw [← hkr] at hx HH hl ⊢
  have HK := Lib.hid hkr; have HX := Lib.hid hx; have HVE := Lib.hid hve; have HRL := Lib.hid hrl
  have HD := Lib.hid hd
  clear hkr hx hve hvl h0 hrl hd hs
  unfold drV
  have HM := Lib.hid ((Row.new w 25 #[.int .u8 (d.form : Int), .int .u8 (d.len : Int), .int .u8 (d.speed : Int), .int .u16 (d.mute : Int), .int .u16 (d.wait : Int), .int .u8 (d.cancel : Int), .int .u8 (d.stay : Int), .int .u8 (d.join : Int), .slice Ar kr cr]).alloc (.cells #[.slice none 0 0, .slice none 0 0, .slice none 0 0, .slice none 0 0, .slice none 0 0, .int .i64 0, .int .i64 0, .int .i64 0, .int .i64 0, .int .i64 0] 33))
  have HR := Lib.hid (Row.new (w.alloc (.cells #[.int .u8 (d.form : Int), .int .u8 (d.len : Int), .int .u8 (d.speed : Int), .int .u16 (d.mute : Int), .int .u16 (d.wait : Int), .int .u8 (d.cancel : Int), .int .u8 (d.stay : Int), .int .u8 (d.join : Int), .slice Ar kr cr] 25)) 33 #[.slice none 0 0, .slice none 0 0, .slice none 0 0, .slice none 0 0, .slice none 0 0, .int .i64 0, .int .i64 0, .int .i64 0, .int .i64 0, .int .i64 0])
  have HB := Lib.hid (((Below.refl w.heap.size w).alloc (Nat.le_refl _) (.cells #[.int .u8 (d.form : Int), .int .u8 (d.len : Int), .int .u8 (d.speed : Int), .int .u16 (d.mute : Int), .int .u16 (d.wait : Int), .int .u8 (d.cancel : Int), .int .u8 (d.stay : Int), .int .u8 (d.join : Int), .slice Ar kr cr] 25)).alloc (by simp) (.cells #[.slice none 0 0, .slice none 0 0, .slice none 0 0, .slice none 0 0, .slice none 0 0, .int .i64 0, .int .i64 0, .int .i64 0, .int .i64 0, .int .i64 0] 33))
  go_enter Tryz.func11, Tryz.ntmps11
  go_upto_region 1 with (fail)
  simp only [World.size_alloc] at HR
  generalize (w.alloc (.cells #[.int .u8 (d.form : Int), .int .u8 (d.len : Int), .int .u8 (d.speed : Int), .int .u16 (d.mute : Int), .int .u16 (d.wait : Int), .int .u8 (d.cancel : Int), .int .u8 (d.stay : Int), .int .u8 (d.join : Int), .slice Ar kr cr] 25)).alloc (.cells #[.slice none 0 0, .slice none 0 0, .slice none 0 0, .slice none 0 0, .slice none 0 0, .int .i64 0, .int .i64 0, .int .i64 0, .int .i64 0, .int .i64 0] 33) = W0 at *
  obtain ⟨n0, hn0⟩ : ∃ n, n = w.heap.size := ⟨_, rfl⟩
  obtain ⟨b1, hb1⟩ : ∃ n, n = n0 + 1 := ⟨_, rfl⟩
  rw [← hn0] at HM HB HR HH HX HVE ⊢
  rw [← hb1] at HR ⊢
  have HN : Hid (n0 = w.heap.size ∧ b1 = n0 + 1) := ⟨hn0, hb1⟩
  clear hn0 hb1
  have HBR : Hid (BRows W0 W0.heap.size (.slice Ar kr cr) d.routes) := HH.out.mono (by have := HB.out.size; have := HN.out; omega) (fun p hp => HB.out.cell (p := p) hp)
  have f0 := HM.out.cell 0; have f1 := HM.out.cell 1; have f2 := HM.out.cell 2; have f3 := HM.out.cell 3; have f4 := HM.out.cell 4; have f5 := HM.out.cell 5; have f6 := HM.out.cell 6; have f7 := HM.out.cell 7; have f8 := HM.out.cell 8
  simp only [List.getElem?_toArray, List.getElem?_cons_zero, List.getElem?_cons_succ] at f0 f1 f2 f3 f4 f5 f6 f7 f8
  go_wp2_with fail
  refine (makeDraft_any W0 d (.slice Ar kr cr) HD.out HBR.out).mono ?_
  rintro e w1 ⟨vN, vS, vP, vQ, rfl, hF, hb1⟩
  obtain ⟨A0, c0, rfl⟩ := hF.n.slice
  obtain ⟨A1, c1, rfl⟩ := hF.s.slice
  obtain ⟨A2, c2, rfl⟩ := hF.p.slice
  obtain ⟨A3, c3, rfl⟩ := hF.q.slice
  have hks : 3 ≤ (makeL d).secs.length ∧ (makeL d).secs.length ≤ 8 := by show 3 ≤ (makeSecs d (makeEnds d) (makeEnds d).length).length ∧ (makeSecs d (makeEnds d) (makeEnds d).length).length ≤ 8; rw [makeSecs_len]; exact makeEnds_len d
  have HFT : Hid (∀ rs, Fits { makeL d with routes := rs }) := fits_routes d
  have HFE : Hid (∀ i, (d.routes.length ≤ i ∨ 16 ≤ (fullTo (makeL d) d.routes i).length) → fullTo (makeL d) d.routes i = (fullL d).routes) := fullTo_end d
  obtain ⟨LM, hLM⟩ : ∃ L, L = makeL d := ⟨_, rfl⟩
  rw [← hLM] at hF hks HFT HFE ⊢
  have HLM := Lib.hid hLM
  have HF := Lib.hid hF; have HB1 := Lib.hid hb1
  clear hLM hF hb1 f0 f1 f2 f3 f4 f5 f6 f7 f8
  obtain ⟨t0, ht0⟩ : ∃ t, LM.speed = t := ⟨_, rfl⟩
  obtain ⟨t1, ht1⟩ : ∃ t, LM.mute = t := ⟨_, rfl⟩
  obtain ⟨t2, ht2⟩ : ∃ t, LM.wait = t := ⟨_, rfl⟩
  obtain ⟨t3, ht3⟩ : ∃ t, LM.cancel = t := ⟨_, rfl⟩
  obtain ⟨t4, ht4⟩ : ∃ t, LM.stay = t := ⟨_, rfl⟩
  obtain ⟨k0, hk0⟩ : ∃ t, LM.nodes.length = t := ⟨_, rfl⟩
  obtain ⟨k1, hk1⟩ : ∃ t, LM.secs.length = t := ⟨_, rfl⟩
  obtain ⟨k2, hk2⟩ : ∃ t, LM.parts.length = t := ⟨_, rfl⟩
  obtain ⟨k3, hk3⟩ : ∃ t, LM.points.length = t := ⟨_, rfl⟩
  have HT : Hid (LM.speed = t0 ∧ LM.mute = t1 ∧ LM.wait = t2 ∧ LM.cancel = t3 ∧ LM.stay = t4) := ⟨ht0, ht1, ht2, ht3, ht4⟩
  have HK1 := Lib.hid hk1
  rw [hk0, hk1, hk2, hk3] at HF
  rw [hk1] at hks
  rw [ht0, ht1, ht2, ht3, ht4, hk0, hk1, hk2, hk3]
  clear ht0 ht1 ht2 ht3 ht4 hk0 hk1 hk2 hk3
  have hb2 := (Below.refl w1.heap.size w1).alloc (Nat.le_refl _) (.cells #[.slice A0 k0 c0, .slice A1 k1 c1, .slice A2 k2 c2, .slice A3 k3 c3, .slice none 0 0, .int .i64 t0, .int .i64 t1, .int .i64 t2, .int .i64 t3, .int .i64 t4] 33)
  have HB2 : Hid (Below W0.heap.size W0 (w1.alloc (.cells #[.slice A0 k0 c0, .slice A1 k1 c1, .slice A2 k2 c2, .slice A3 k3 c3, .slice none 0 0, .int .i64 t0, .int .i64 t1, .int .i64 t2, .int .i64 t3, .int .i64 t4] 33))) := HB1.out.trans (hb2.mono HB1.out.size)
  have HR2 := Lib.hid (Row.new w1 33 #[.slice A0 k0 c0, .slice A1 k1 c1, .slice A2 k2 c2, .slice A3 k3 c3, .slice none 0 0, .int .i64 t0, .int .i64 t1, .int .i64 t2, .int .i64 t3, .int .i64 t4])
  have HF2 := Lib.hid (HF.out.kept (KeptL.of_below (S := []) hb2) (fun t _ k hk => by simp at hk))
  have HW1 : Hid (W0.heap.size ≤ w1.heap.size) := HB1.out.size
  clear hb2
  go_upto_region 2 with (fail)
  obtain ⟨b3, hb3⟩ : ∃ n, n = w1.heap.size := ⟨_, rfl⟩
  rw [← hb3] at HR2 HW1 ⊢
  clear hb3
  generalize w1.alloc (.cells #[.slice A0 k0 c0, .slice A1 k1 c1, .slice A2 k2 c2, .slice A3 k3 c3, .slice none 0 0, .int .i64 t0, .int .i64 t1, .int .i64 t2, .int .i64 t3, .int .i64 t4] 33) = P at *
  have HMP : Hid (Mk P n0 b1 b3 #[.int .u8 (d.form : Int), .int .u8 (d.len : Int), .int .u8 (d.speed : Int), .int .u16 (d.mute : Int), .int .u16 (d.wait : Int), .int .u8 (d.cancel : Int), .int .u8 (d.stay : Int), .int .u8 (d.join : Int), .slice Ar kr cr] #[.slice A0 k0 c0, .slice A1 k1 c1, .slice A2 k2 c2, .slice A3 k3 c3, .slice none 0 0, .int .i64 t0, .int .i64 t1, .int .i64 t2, .int .i64 t3, .int .i64 t4]) := by
    have l1 := HM.out.lt; have l2 := HR.out.lt; have l3 := HW1.out; have l4 := HN.out
    exact ⟨Below.row HB2.out HM.out HM.out.lt, Below.row HB2.out HR.out HR.out.lt, HR2.out, by omega, by omega, by omega⟩
  have HBP : Hid (Below n0 w P) := HB.out.trans (HB2.out.mono (by have := HM.out.lt; omega))
  have HCP : Hid (∀ p : Addr, p.block < n0 → P.cell? p = w.cell? p) := fun p hp => HBP.out.cell (p := p) hp
  have HN3 : Hid (n0 < b3) := by show n0 < b3; have l1 := HM.out.lt; have l3 := HW1.out; omega
  clear HB HB1 HB2 HM HR HR2 HW1 HBR
  have HSP : Hid (n0 < P.heap.size ∧ b1 < P.heap.size ∧ b3 < P.heap.size) := ⟨HMP.out.dr.lt, HMP.out.res.lt, HMP.out.lay.lt⟩
  obtain ⟨i5, hi5, hz50, hz51, hz52⟩ := info_parts Tryz.info42
  go_wp2_with fail
  go_loopw [4] (fun k wr => ∃ i : Nat, i ≤ kr ∧ k = .int .i64 i ∧ Hid (∃ vR, Mk wr n0 b1 b3 #[.int .u8 (d.form : Int), .int .u8 (d.len : Int), .int .u8 (d.speed : Int), .int .u16 (d.mute : Int), .int .u16 (d.wait : Int), .int .u8 (d.cancel : Int), .int .u8 (d.stay : Int), .int .u8 (d.join : Int), .slice Ar kr cr] #[.slice A0 k0 c0, .slice A1 k1 c1, .slice A2 k2 c2, .slice A3 k3 c3, vR, .int .i64 t0, .int .i64 t1, .int .i64 t2, .int .i64 t3, .int .i64 t4] ∧ OwnRows wr P.heap.size vR (fullTo LM d.routes i) ∧ KeptL [b3] P wr)) (fun k _ => kr - (intOf k).toNat)
  case atStart => exact ⟨0, Nat.zero_le _, rfl, .slice none 0 0, HMP.out, OwnRows.nil _ _, KeptL.refl _ _⟩
  case round =>
    obtain ⟨i, hi, rfl, HJ⟩ := hrel
    obtain ⟨vR, hMk, ⟨us, hor⟩, hKp⟩ := HJ.out
    obtain ⟨A4, c4, hv4⟩ := own_slice hor.own
    subst hv4
    have HMI := Lib.hid hMk; have HOR := Lib.hid hor; have HKI := Lib.hid hKp
    have hul : us.length ≤ 16 := by rw [hor.len]; exact fullTo_le _ _ _
    clear hMk hor hKp HJ
    have g8 := HMI.out.dr.cell 8; have l4 := HMI.out.lay.cell 4
    simp only [List.getElem?_toArray, List.getElem?_cons_zero, List.getElem?_cons_succ] at g8 l4
    by_cases hlt : i < kr
    · by_cases h16 : us.length < 16
      · have hiq : i < d.routes.length := by have := HK.out; omega
        have hiv : i < vs.length := by have := HVL.out; omega
        obtain ⟨b, o, rfl, hb, hc⟩ := HX.out (by omega)
        have HCW : Hid (∀ p : Addr, p.block < n0 → wr.cell? p = w.cell? p) := fun p hp => by
          have e : wr.heap[p.block]? = P.heap[p.block]? := HKI.out.block p.block (by have := HSP.out; omega) (by have := HN3.out; simp; omega)
          rw [← HCP.out p hp]
          simp only [World.cell?, e]
        have hcell : wr.cell? ⟨b, o + i, none⟩ = some vs[i] := (HCW.out ⟨b, o + i, none⟩ hb).trans (hc i _ (List.getElem?_eq_getElem hiv))
        have he := (HVE.out i hiv hiq).mono (w' := wr) (B' := n0) (Nat.le_refl _) HCW.out
        have hrl := HRL.out d.routes[i] (List.getElem_mem _)
        have HNXT : Hid (fullTo LM d.routes (i + 1) = fullStep LM (fullTo LM d.routes i) d.routes[i]) := fullTo_succ LM d.routes i hiq
        have HBY : Hid (∀ x ∈ d.routes[i], x < 256) := HD.out.bytes _ (List.getElem_mem _)
        have HUL : Hid (us.length = (fullTo LM d.routes i).length) := HOR.out.len
        clear hc
        generalize vs[i] = z at *
        generalize d.routes[i] = r at *
        have HE := Lib.hid he
        obtain ⟨B, cc, rfl, ⟨h0, hcc⟩, hx2⟩ := he
        simp only [bvals_length] at *
        by_cases h2 : r.length < 2
        · have HNX : Hid (∃ vR, Mk wr n0 b1 b3 #[.int .u8 (d.form : Int), .int .u8 (d.len : Int), .int .u8 (d.speed : Int), .int .u16 (d.mute : Int), .int .u16 (d.wait : Int), .int .u8 (d.cancel : Int), .int .u8 (d.stay : Int), .int .u8 (d.join : Int), .slice (some ⟨b, o, none⟩) kr cr] #[.slice A0 k0 c0, .slice A1 k1 c1, .slice A2 k2 c2, .slice A3 k3 c3, vR, .int .i64 t0, .int .i64 t1, .int .i64 t2, .int .i64 t3, .int .i64 t4] ∧ OwnRows wr P.heap.size vR (fullTo LM d.routes (i + 1)) ∧ KeptL [b3] P wr) := ⟨_, HMI.out, ⟨us, by rw [HNXT.out]; unfold fullStep; rw [if_neg (by omega)]; exact HOR.out⟩, HKI.out⟩
          clear hx2
          go_wp2_with fail
          go_roundw
          case rel => exact ⟨i + 1, by omega, by go_num, HNX⟩
          case measure => simp [intOf]; omega
        · obtain ⟨b', o', rfl, hb', hc'⟩ := hx2 (by omega)
          have x0 := hc' 0 _ (bvals_get r 0 (by omega))
          have x1 := hc' 1 _ (bvals_get r 1 (by omega))
          simp only [Nat.add_zero] at x0
          have hy0 := HBY.out r[0] (List.getElem_mem _)
          have hy1 := HBY.out r[1] (List.getElem_mem _)
          have hg0 : r.getD 0 0 = r[0] := by rw [List.getD, List.getElem?_eq_getElem (by omega)]; rfl
          have hg1 : r.getD 1 0 = r[1] := by rw [List.getD, List.getElem?_eq_getElem (by omega)]; rfl
          have HPO : Hid (pathOf LM r = walkL LM ((r[0] % k1 : Nat) : Int) ((r[0] / 128 : Nat) : Int) (r.drop 2) (2 + r[1] % 5)) := by show _ = _; unfold pathOf; rw [hg0, hg1, HK1.out]
          have HV : Hid (LayV wr wr.heap.size (.agg #[.slice A0 k0 c0, .slice A1 k1 c1, .slice A2 k2 c2, .slice A3 k3 c3, .slice A4 us.length c4, .int .i64 t0, .int .i64 t1, .int .i64 t2, .int .i64 t3, .int .i64 t4]) { LM with routes := fullTo LM d.routes i }) := full_lay HF2.out HMP.out HKI.out HOR.out HT.out
          clear hc' hg0 hg1 hx2
          generalize r[0] = y0 at *
          generalize r[1] = y1 at *
          obtain ⟨X, hX⟩ : ∃ X, X = y0 % k1 := ⟨_, rfl⟩
          obtain ⟨Y, hY⟩ : ∃ Y, Y = y0 / 128 := ⟨_, rfl⟩
          obtain ⟨Z, hZ⟩ : ∃ Z, Z = y1 % 5 := ⟨_, rfl⟩
          rw [← hX, ← hY, ← hZ] at HPO
          have f1 : ((y0 : Int)).tmod (k1 : Int) = (X : Int) := by rw [hX, Int.tmod_eq_emod_of_nonneg (by omega)]; omega
          have f2 : ((y0 : Int)).tdiv 128 = (Y : Int) := by rw [hY, Int.tdiv_eq_ediv_of_nonneg (by omega)]; omega
          have f3 : ((y1 : Int)).tmod 5 = (Z : Int) := by rw [hZ, Int.tmod_eq_emod_of_nonneg (by omega)]; omega
          have hZ5 : Z < 5 := by omega
          have hY2 : Y < 2 := by omega
          have hk1n : ¬ k1 = 0 := by omega
          have f1e : (y0 : Int) % (k1 : Int) = (X : Int) := by omega
          have f2e : (y0 : Int) / 128 = (Y : Int) := by omega
          have f3e : (y1 : Int) % 5 = (Z : Int) := by omega
          have hX8 : X < 8 := by have := Nat.mod_lt y0 (show 0 < k1 by omega); omega
          have hw0 : IntKind.i64.wrap (y0 : Int) = (y0 : Int) := IntWalk.i64_in _ (by omega)
          have hw1 : IntKind.i64.wrap (X : Int) = (X : Int) := IntWalk.i64_in _ (by omega)
          have hw2 : IntKind.i64.wrap (Y : Int) = (Y : Int) := IntWalk.i64_in _ (by omega)
          have hw3 : IntKind.i64.wrap (Z : Int) = (Z : Int) := IntWalk.i64_in _ (by omega)
          obtain ⟨rl, hrle⟩ : ∃ n, r.length = n := ⟨_, rfl⟩
          have HRE := Lib.hid hrle
          rw [hrle] at hcc h2 hrl hcell
          have hr0 : 0 < rl := by omega
          have hr1 : 1 < rl := by omega
          have hr2 : 2 ≤ rl := by omega
          have hr0i : (0 : Int) < (rl : Int) := by omega
          have hr1i : (1 : Int) < (rl : Int) := by omega
          have hr2i : (2 : Int) ≤ (rl : Int) := by omega
          have hk1i : ¬ (k1 : Int) = 0 := by omega
          clear hrle hX hY hZ
          go_upto_region 7 with (fail)
          clear hcell
          have HB7 : Hid (Mk wr.drew n0 b1 b3 #[.int .u8 (d.form : Int), .int .u8 (d.len : Int), .int .u8 (d.speed : Int), .int .u16 (d.mute : Int), .int .u16 (d.wait : Int), .int .u8 (d.cancel : Int), .int .u8 (d.stay : Int), .int .u8 (d.join : Int), .slice (some ⟨b, o, none⟩) kr cr] #[.slice A0 k0 c0, .slice A1 k1 c1, .slice A2 k2 c2, .slice A3 k3 c3, .slice A4 us.length c4, .int .i64 t0, .int .i64 t1, .int .i64 t2, .int .i64 t3, .int .i64 t4] ∧ ORows wr.drew P.heap.size (.slice A4 us.length c4) us (fullTo LM d.routes i) ∧ KeptL [b3] P wr.drew ∧ LayV wr.drew wr.drew.heap.size (.agg #[.slice A0 k0 c0, .slice A1 k1 c1, .slice A2 k2 c2, .slice A3 k3 c3, .slice A4 us.length c4, .int .i64 t0, .int .i64 t1, .int .i64 t2, .int .i64 t3, .int .i64 t4]) { LM with routes := fullTo LM d.routes i } ∧ Rd wr.drew n0 (.slice (some ⟨b', o', none⟩) r.length cc) (bvals r)) :=
            ⟨⟨HMI.out.dr, HMI.out.res, HMI.out.lay, HMI.out.ne⟩, HOR.out.drew, ⟨HKI.out.os, HKI.out.tape, HKI.out.output, HKI.out.size, HKI.out.block⟩, HV.out.mono (Nat.le_refl _) (fun _ _ => rfl), HE.out.mono (Nat.le_refl _) (fun _ _ => rfl)⟩
          have x0' : wr.drew.cell? ⟨b', o', none⟩ = some (.int .u8 (y0 : Int)) := x0
          have x1' : wr.drew.cell? ⟨b', o' + 1, none⟩ = some (.int .u8 (y1 : Int)) := x1
          refine wp_region_still_tail 22 (by kernel_rfl) (by kernel_rfl) ?_
          change wpStill _ _ wr.drew (fun a' => wpList _ _ _ _ a' wr.drew) _ _
          clear x0 x1 g8 l4 HMI HOR HKI HV HE HCW
          generalize wr.drew = wq at *
          have p0 := HB7.out.1.lay.cell 0; have p1 := HB7.out.1.lay.cell 1; have p2 := HB7.out.1.lay.cell 2; have p3 := HB7.out.1.lay.cell 3; have p4 := HB7.out.1.lay.cell 4; have p5 := HB7.out.1.lay.cell 5; have p6 := HB7.out.1.lay.cell 6; have p7 := HB7.out.1.lay.cell 7; have p8 := HB7.out.1.lay.cell 8; have p9 := HB7.out.1.lay.cell 9
          simp only [List.getElem?_toArray, List.getElem?_cons_zero, List.getElem?_cons_succ] at p0 p1 p2 p3 p4 p5 p6 p7 p8 p9
          simp only [List.take_succ_cons, List.take_zero, List.drop_succ_cons, List.drop_zero]
          by_cases hc2 : cc = 2
          · subst hc2
            repeat still_step
            refine wpStill_nil ?_
            have HPE : Hid (walkL { LM with routes := fullTo LM d.routes i } (X : Int) (Y : Int) [] (2 + Z) = pathOf LM r) := by
              show _ = _
              have h2 := HRE.out
              rw [walkL_routes, HPO.out, show r.drop 2 = [] from List.drop_eq_nil_of_le (by omega)]
            go_wp2_with fail
            rw [show (2 : Int) + (Z : Int) = ((2 + Z : Nat) : Int) by omega]
            refine (refWalk_any wq wq.heap.size _ { LM with routes := fullTo LM d.routes i } (X : Int) (Y : Int) (some ⟨b', o', none⟩) 0 [] (2 + Z) HB7.out.2.2.2.1 (Nat.le_refl _) (HFT.out _) (Rd.none2 _ _ _ _ (fun e => by cases e)) (by simp) (by simp) (by omega) (by omega)).mono ?_
            rintro e w8 ⟨v8, rfl, ho8, hb8⟩
            rw [HPE.out] at ho8
            obtain ⟨A8, c8, hv8⟩ := own_slice ho8
            subst hv8
            have hkl := KeptL.of_below (S := []) hb8
            have HM8 : Hid (Mk w8 n0 b1 b3 #[.int .u8 (d.form : Int), .int .u8 (d.len : Int), .int .u8 (d.speed : Int), .int .u16 (d.mute : Int), .int .u16 (d.wait : Int), .int .u8 (d.cancel : Int), .int .u8 (d.stay : Int), .int .u8 (d.join : Int), .slice (some ⟨b, o, none⟩) kr cr] #[.slice A0 k0 c0, .slice A1 k1 c1, .slice A2 k2 c2, .slice A3 k3 c3, .slice A4 us.length c4, .int .i64 t0, .int .i64 t1, .int .i64 t2, .int .i64 t3, .int .i64 t4]) := HB7.out.1.fresh hb8
            have HO8 : Hid (ORows w8 P.heap.size (.slice A4 us.length c4) us (fullTo LM d.routes i)) := HB7.out.2.1.grown hkl.grownN (fun k hk => by cases hk)
            have HK8 : Hid (KeptL [b3] P w8) := HB7.out.2.2.1.trans (hkl.mono (by simp))
            have HU8 : Hid (w8.ownsRow P.heap.size 3 1 (.slice A8 (pathOf LM r).length c8) (pathOf LM r).length (ivals (pathOf LM r))) := own_base ho8 HB7.out.2.2.1.size
            have HFR : Hid (∀ g, (Value.slice A8 (pathOf LM r).length c8).ownBlock = some g → ∀ q (h1 : q < us.length), us[q].ownBlock ≠ some g) := fun g hg q hq e => by
              have h1 := (ho8.lt g hg).1
              have h2 := ((HB7.out.2.1.row q hq (by rw [← HB7.out.2.1.len]; exact hq)).lt g e).2
              omega
            have hpl : (pathOf LM r).length ≤ 6 := by rw [HPO.out]; have := walkL_len LM (X : Int) (Y : Int) (r.drop 2) (2 + Z) (by omega); omega
            have HST : Hid (2 ≤ (pathOf LM r).length → fullTo LM d.routes i ++ [pathOf LM r] = fullTo LM d.routes (i + 1)) := fun h => by
              have h1 := HUL.out; have h2 := HRE.out
              rw [HNXT.out]; unfold fullStep; rw [if_pos ⟨by omega, by omega, h⟩]
            have HSN : Hid (¬ 2 ≤ (pathOf LM r).length → fullTo LM d.routes (i + 1) = fullTo LM d.routes i) := fun h => by
              rw [HNXT.out]; unfold fullStep; rw [if_neg (by omega)]
            clear ho8 hb8 hkl p0 p1 p2 p3 p4 p5 p6 p7 p8 p9 x0' x1' HB7 HPE HPO
            generalize pathOf LM r = path at *
            have f4 := HM8.out.lay.cell 4
            simp only [List.getElem?_toArray, List.getElem?_cons_zero, List.getElem?_cons_succ] at f4
            by_cases hp2 : 2 ≤ path.length
            · have HSTE := Lib.hid (HST.out hp2)
              have hp2i : (2 : Int) ≤ (path.length : Int) := by omega
              clear HST HSN HNXT
              go_wp2_with (at_builtin; refine wpList_append_own _ rfl (.tmp 57) (.tmp 59) 30 rfl P.heap.size 42 i5 (.slice none 0 0) 1 24 Tryz.underlying30 hi5 hz50 hz51 hz52 rfl (by decide) _ _ _ rfl (HO8.out.own.alloc _) ⟨w8.heap.size, 0, none⟩ 1 1 [.slice A8 path.length c8] rfl rfl (one_new w8 42 _) (one_cell rfl) (by unfold maxLen; omega) (by omega) (by have := HK8.out.size; simp; omega) ?_)
              intro v5 w5 hown5 hgrow5 _
              obtain ⟨A5, c5, hv5⟩ := own_slice hown5
              subst hv5
              have hrb : ∀ k, (Value.slice A4 us.length c4).ownBlock = some k → P.heap.size ≤ k := fun k hk => (HO8.out.own.lt k hk).1
              have hpush := (HO8.out.alloc (.cells #[.slice A8 path.length c8] 42)).push (HU8.out.alloc _) HFR.out hown5 hgrow5
              have mk5 := (HM8.out.fresh ((Below.refl _ _).alloc (Nat.le_refl _) (.cells #[.slice A8 path.length c8] 42))).grown hgrow5 hrb HSP.out
              have kp5 : KeptL [b3] P w5 := (HK8.out.alloc _).grown hgrow5 hrb
              have g0 := mk5.lay.cell 4; have z0 := mk5.lay.frozen 4
              simp only [List.getElem?_toArray, List.getElem?_cons_zero, List.getElem?_cons_succ] at g0
              have HNX : Hid (∃ vR, Mk (w5.setCell ⟨b3, 4, none⟩ (.slice A5 (us.length + 1) c5)) n0 b1 b3 #[.int .u8 (d.form : Int), .int .u8 (d.len : Int), .int .u8 (d.speed : Int), .int .u16 (d.mute : Int), .int .u16 (d.wait : Int), .int .u8 (d.cancel : Int), .int .u8 (d.stay : Int), .int .u8 (d.join : Int), .slice (some ⟨b, o, none⟩) kr cr] #[.slice A0 k0 c0, .slice A1 k1 c1, .slice A2 k2 c2, .slice A3 k3 c3, vR, .int .i64 t0, .int .i64 t1, .int .i64 t2, .int .i64 t3, .int .i64 t4] ∧ OwnRows (w5.setCell ⟨b3, 4, none⟩ (.slice A5 (us.length + 1) c5)) P.heap.size vR (fullTo LM d.routes (i + 1)) ∧ KeptL [b3] P (w5.setCell ⟨b3, 4, none⟩ (.slice A5 (us.length + 1) c5))) := ⟨_, mk5.set 4 _, ⟨_, by rw [← HSTE.out]; exact hpush.set (a := ⟨b3, 4, none⟩) HSP.out.2.2 _⟩, kp5.set (by simp) _⟩
              clear hown5 hgrow5 hrb mk5 kp5 hpush f4
              go_wp2_with fail
              go_roundw
              case rel => exact ⟨i + 1, by omega, by go_num, HNX⟩
              case measure => simp [intOf]; omega
            · have HSNE := Lib.hid (HSN.out hp2)
              have hp2i : ¬ (2 : Int) ≤ (path.length : Int) := by omega
              have HNX : Hid (∃ vR, Mk w8 n0 b1 b3 #[.int .u8 (d.form : Int), .int .u8 (d.len : Int), .int .u8 (d.speed : Int), .int .u16 (d.mute : Int), .int .u16 (d.wait : Int), .int .u8 (d.cancel : Int), .int .u8 (d.stay : Int), .int .u8 (d.join : Int), .slice (some ⟨b, o, none⟩) kr cr] #[.slice A0 k0 c0, .slice A1 k1 c1, .slice A2 k2 c2, .slice A3 k3 c3, vR, .int .i64 t0, .int .i64 t1, .int .i64 t2, .int .i64 t3, .int .i64 t4] ∧ OwnRows w8 P.heap.size vR (fullTo LM d.routes (i + 1)) ∧ KeptL [b3] P w8) := ⟨_, HM8.out, ⟨us, by rw [HSNE.out]; exact HO8.out⟩, HK8.out⟩
              clear HST HSN HNXT
              go_wp2_with fail
              go_roundw
              case rel => exact ⟨i + 1, by omega, by go_num, HNX⟩
              case measure => simp [intOf]; omega
          · repeat still_step
            refine wpStill_nil ?_
            have HPE : Hid (walkL { LM with routes := fullTo LM d.routes i } (X : Int) (Y : Int) (r.drop 2) (2 + Z) = pathOf LM r) := by
              show _ = _
              rw [walkL_routes, HPO.out]
            go_wp2_with fail
            rw [show (2 : Int) + (Z : Int) = ((2 + Z : Nat) : Int) by omega, show rl - 2 = (r.drop 2).length by rw [List.length_drop, HRE.out]]
            refine (refWalk_any wq wq.heap.size _ { LM with routes := fullTo LM d.routes i } (X : Int) (Y : Int) (some ⟨b', o' + 2, none⟩) (cc - 2) (r.drop 2) (2 + Z) HB7.out.2.2.2.1 (Nat.le_refl _) (HFT.out _) ((Rd.drop2 HB7.out.2.2.2.2 (by have := HRE.out; omega)).mono (by have := HB7.out.1.dr.lt; omega) (fun _ _ => rfl)) (fun x hx => HBY.out x (List.mem_of_mem_drop hx)) (by have := HRE.out; simp; omega) (by omega) (by omega)).mono ?_
            rintro e w8 ⟨v8, rfl, ho8, hb8⟩
            rw [HPE.out] at ho8
            obtain ⟨A8, c8, hv8⟩ := own_slice ho8
            subst hv8
            have hkl := KeptL.of_below (S := []) hb8
            have HM8 : Hid (Mk w8 n0 b1 b3 #[.int .u8 (d.form : Int), .int .u8 (d.len : Int), .int .u8 (d.speed : Int), .int .u16 (d.mute : Int), .int .u16 (d.wait : Int), .int .u8 (d.cancel : Int), .int .u8 (d.stay : Int), .int .u8 (d.join : Int), .slice (some ⟨b, o, none⟩) kr cr] #[.slice A0 k0 c0, .slice A1 k1 c1, .slice A2 k2 c2, .slice A3 k3 c3, .slice A4 us.length c4, .int .i64 t0, .int .i64 t1, .int .i64 t2, .int .i64 t3, .int .i64 t4]) := HB7.out.1.fresh hb8
            have HO8 : Hid (ORows w8 P.heap.size (.slice A4 us.length c4) us (fullTo LM d.routes i)) := HB7.out.2.1.grown hkl.grownN (fun k hk => by cases hk)
            have HK8 : Hid (KeptL [b3] P w8) := HB7.out.2.2.1.trans (hkl.mono (by simp))
            have HU8 : Hid (w8.ownsRow P.heap.size 3 1 (.slice A8 (pathOf LM r).length c8) (pathOf LM r).length (ivals (pathOf LM r))) := own_base ho8 HB7.out.2.2.1.size
            have HFR : Hid (∀ g, (Value.slice A8 (pathOf LM r).length c8).ownBlock = some g → ∀ q (h1 : q < us.length), us[q].ownBlock ≠ some g) := fun g hg q hq e => by
              have h1 := (ho8.lt g hg).1
              have h2 := ((HB7.out.2.1.row q hq (by rw [← HB7.out.2.1.len]; exact hq)).lt g e).2
              omega
            have hpl : (pathOf LM r).length ≤ 6 := by rw [HPO.out]; have := walkL_len LM (X : Int) (Y : Int) (r.drop 2) (2 + Z) (by omega); omega
            have HST : Hid (2 ≤ (pathOf LM r).length → fullTo LM d.routes i ++ [pathOf LM r] = fullTo LM d.routes (i + 1)) := fun h => by
              have h1 := HUL.out; have h2 := HRE.out
              rw [HNXT.out]; unfold fullStep; rw [if_pos ⟨by omega, by omega, h⟩]
            have HSN : Hid (¬ 2 ≤ (pathOf LM r).length → fullTo LM d.routes (i + 1) = fullTo LM d.routes i) := fun h => by
              rw [HNXT.out]; unfold fullStep; rw [if_neg (by omega)]
            clear ho8 hb8 hkl p0 p1 p2 p3 p4 p5 p6 p7 p8 p9 x0' x1' HB7 HPE HPO
            generalize pathOf LM r = path at *
            have f4 := HM8.out.lay.cell 4
            simp only [List.getElem?_toArray, List.getElem?_cons_zero, List.getElem?_cons_succ] at f4
            by_cases hp2 : 2 ≤ path.length
            · have HSTE := Lib.hid (HST.out hp2)
              have hp2i : (2 : Int) ≤ (path.length : Int) := by omega
              clear HST HSN HNXT
              go_wp2_with (at_builtin; refine wpList_append_own _ rfl (.tmp 57) (.tmp 59) 30 rfl P.heap.size 42 i5 (.slice none 0 0) 1 24 Tryz.underlying30 hi5 hz50 hz51 hz52 rfl (by decide) _ _ _ rfl (HO8.out.own.alloc _) ⟨w8.heap.size, 0, none⟩ 1 1 [.slice A8 path.length c8] rfl rfl (one_new w8 42 _) (one_cell rfl) (by unfold maxLen; omega) (by omega) (by have := HK8.out.size; simp; omega) ?_)
              intro v5 w5 hown5 hgrow5 _
              obtain ⟨A5, c5, hv5⟩ := own_slice hown5
              subst hv5
              have hrb : ∀ k, (Value.slice A4 us.length c4).ownBlock = some k → P.heap.size ≤ k := fun k hk => (HO8.out.own.lt k hk).1
              have hpush := (HO8.out.alloc (.cells #[.slice A8 path.length c8] 42)).push (HU8.out.alloc _) HFR.out hown5 hgrow5
              have mk5 := (HM8.out.fresh ((Below.refl _ _).alloc (Nat.le_refl _) (.cells #[.slice A8 path.length c8] 42))).grown hgrow5 hrb HSP.out
              have kp5 : KeptL [b3] P w5 := (HK8.out.alloc _).grown hgrow5 hrb
              have g0 := mk5.lay.cell 4; have z0 := mk5.lay.frozen 4
              simp only [List.getElem?_toArray, List.getElem?_cons_zero, List.getElem?_cons_succ] at g0
              have HNX : Hid (∃ vR, Mk (w5.setCell ⟨b3, 4, none⟩ (.slice A5 (us.length + 1) c5)) n0 b1 b3 #[.int .u8 (d.form : Int), .int .u8 (d.len : Int), .int .u8 (d.speed : Int), .int .u16 (d.mute : Int), .int .u16 (d.wait : Int), .int .u8 (d.cancel : Int), .int .u8 (d.stay : Int), .int .u8 (d.join : Int), .slice (some ⟨b, o, none⟩) kr cr] #[.slice A0 k0 c0, .slice A1 k1 c1, .slice A2 k2 c2, .slice A3 k3 c3, vR, .int .i64 t0, .int .i64 t1, .int .i64 t2, .int .i64 t3, .int .i64 t4] ∧ OwnRows (w5.setCell ⟨b3, 4, none⟩ (.slice A5 (us.length + 1) c5)) P.heap.size vR (fullTo LM d.routes (i + 1)) ∧ KeptL [b3] P (w5.setCell ⟨b3, 4, none⟩ (.slice A5 (us.length + 1) c5))) := ⟨_, mk5.set 4 _, ⟨_, by rw [← HSTE.out]; exact hpush.set (a := ⟨b3, 4, none⟩) HSP.out.2.2 _⟩, kp5.set (by simp) _⟩
              clear hown5 hgrow5 hrb mk5 kp5 hpush f4
              go_wp2_with fail
              go_roundw
              case rel => exact ⟨i + 1, by omega, by go_num, HNX⟩
              case measure => simp [intOf]; omega
            · have HSNE := Lib.hid (HSN.out hp2)
              have hp2i : ¬ (2 : Int) ≤ (path.length : Int) := by omega
              have HNX : Hid (∃ vR, Mk w8 n0 b1 b3 #[.int .u8 (d.form : Int), .int .u8 (d.len : Int), .int .u8 (d.speed : Int), .int .u16 (d.mute : Int), .int .u16 (d.wait : Int), .int .u8 (d.cancel : Int), .int .u8 (d.stay : Int), .int .u8 (d.join : Int), .slice (some ⟨b, o, none⟩) kr cr] #[.slice A0 k0 c0, .slice A1 k1 c1, .slice A2 k2 c2, .slice A3 k3 c3, vR, .int .i64 t0, .int .i64 t1, .int .i64 t2, .int .i64 t3, .int .i64 t4] ∧ OwnRows w8 P.heap.size vR (fullTo LM d.routes (i + 1)) ∧ KeptL [b3] P w8) := ⟨_, HM8.out, ⟨us, by rw [HSNE.out]; exact HO8.out⟩, HK8.out⟩
              clear HST HSN HNXT
              go_wp2_with fail
              go_roundw
              case rel => exact ⟨i + 1, by omega, by go_num, HNX⟩
              case measure => simp [intOf]; omega
      · have HRS : Hid (fullTo LM d.routes i = (fullL d).routes) := HFE.out i (Or.inr (by rw [← HOR.out.len]; omega))
        obtain ⟨V5, hV5⟩ : ∃ x, x = wr := ⟨_, rfl⟩
        subst hV5
        have p0 := HMI.out.lay.cell 0; have q0 := HMI.out.res.cell 0; have r0 := HMI.out.res.frozen 0
        have p1 := HMI.out.lay.cell 1; have q1 := HMI.out.res.cell 1; have r1 := HMI.out.res.frozen 1
        have p2 := HMI.out.lay.cell 2; have q2 := HMI.out.res.cell 2; have r2 := HMI.out.res.frozen 2
        have p3 := HMI.out.lay.cell 3; have q3 := HMI.out.res.cell 3; have r3 := HMI.out.res.frozen 3
        have p4 := HMI.out.lay.cell 4; have q4 := HMI.out.res.cell 4; have r4 := HMI.out.res.frozen 4
        have p5 := HMI.out.lay.cell 5; have q5 := HMI.out.res.cell 5; have r5 := HMI.out.res.frozen 5
        have p6 := HMI.out.lay.cell 6; have q6 := HMI.out.res.cell 6; have r6 := HMI.out.res.frozen 6
        have p7 := HMI.out.lay.cell 7; have q7 := HMI.out.res.cell 7; have r7 := HMI.out.res.frozen 7
        have p8 := HMI.out.lay.cell 8; have q8 := HMI.out.res.cell 8; have r8 := HMI.out.res.frozen 8
        have p9 := HMI.out.lay.cell 9; have q9 := HMI.out.res.cell 9; have r9 := HMI.out.res.frozen 9
        simp only [List.getElem?_toArray, List.getElem?_cons_zero, List.getElem?_cons_succ] at p0 q0 p1 q1 p2 q2 p3 q3 p4 q4 p5 q5 p6 q6 p7 q7 p8 q8 p9 q9
        go_wp2_with fail
        obtain ⟨hrow, hbel, hkp⟩ := put10 HMI.out.res (.slice A0 k0 c0) (.slice A1 k1 c1) (.slice A2 k2 c2) (.slice A3 k3 c3) (.slice A4 us.length c4) (.int .i64 t0) (.int .i64 t1) (.int .i64 t2) (.int .i64 t3) (.int .i64 t4)
        refine bodyPost_ret (results_cell_row rfl _ _ b1 33 #[.slice A0 k0 c0, .slice A1 k1 c1, .slice A2 k2 c2, .slice A3 k3 c3, .slice A4 us.length c4, .int .i64 t0, .int .i64 t1, .int .i64 t2, .int .i64 t3, .int .i64 t4] (0, 0) _ rfl hrow Tryz.underlying33 rfl Tryz.size33) rfl ?_
        exact full_finish HF2.out HMP.out HBP.out HSP.out HN.out HN3.out HKI.out HMI.out HOR.out HLM.out HT.out hkp HRS.out
    · have HRS : Hid (fullTo LM d.routes i = (fullL d).routes) := HFE.out i (Or.inl (by have := HK.out; omega))
      obtain ⟨V5, hV5⟩ : ∃ x, x = wr := ⟨_, rfl⟩
      subst hV5
      have p0 := HMI.out.lay.cell 0; have q0 := HMI.out.res.cell 0; have r0 := HMI.out.res.frozen 0
      have p1 := HMI.out.lay.cell 1; have q1 := HMI.out.res.cell 1; have r1 := HMI.out.res.frozen 1
      have p2 := HMI.out.lay.cell 2; have q2 := HMI.out.res.cell 2; have r2 := HMI.out.res.frozen 2
      have p3 := HMI.out.lay.cell 3; have q3 := HMI.out.res.cell 3; have r3 := HMI.out.res.frozen 3
      have p4 := HMI.out.lay.cell 4; have q4 := HMI.out.res.cell 4; have r4 := HMI.out.res.frozen 4
      have p5 := HMI.out.lay.cell 5; have q5 := HMI.out.res.cell 5; have r5 := HMI.out.res.frozen 5
      have p6 := HMI.out.lay.cell 6; have q6 := HMI.out.res.cell 6; have r6 := HMI.out.res.frozen 6
      have p7 := HMI.out.lay.cell 7; have q7 := HMI.out.res.cell 7; have r7 := HMI.out.res.frozen 7
      have p8 := HMI.out.lay.cell 8; have q8 := HMI.out.res.cell 8; have r8 := HMI.out.res.frozen 8
      have p9 := HMI.out.lay.cell 9; have q9 := HMI.out.res.cell 9; have r9 := HMI.out.res.frozen 9
      simp only [List.getElem?_toArray, List.getElem?_cons_zero, List.getElem?_cons_succ] at p0 q0 p1 q1 p2 q2 p3 q3 p4 q4 p5 q5 p6 q6 p7 q7 p8 q8 p9 q9
      go_wp2_with fail
      obtain ⟨hrow, hbel, hkp⟩ := put10 HMI.out.res (.slice A0 k0 c0) (.slice A1 k1 c1) (.slice A2 k2 c2) (.slice A3 k3 c3) (.slice A4 us.length c4) (.int .i64 t0) (.int .i64 t1) (.int .i64 t2) (.int .i64 t3) (.int .i64 t4)
      refine bodyPost_ret (results_cell_row rfl _ _ b1 33 #[.slice A0 k0 c0, .slice A1 k1 c1, .slice A2 k2 c2, .slice A3 k3 c3, .slice A4 us.length c4, .int .i64 t0, .int .i64 t1, .int .i64 t2, .int .i64 t3, .int .i64 t4] (0, 0) _ rfl hrow Tryz.underlying33 rfl Tryz.size33) rfl ?_
      exact full_finish HF2.out HMP.out HBP.out HSP.out HN.out HN3.out HKI.out HMI.out HOR.out HLM.out HT.out hkp HRS.out

end Go.Proofs.YtagkgejdammflaaGreat
