/- Contract of the document: Declare. -/
import Derived.Test.YthnjilbfkfekhaaG1
import Derived.Test.YthnjilbfkfekhaaO7
namespace Go.Proofs.Ythnjilbfkfekhaa
open Go.RowKit Fl
set_option maxRecDepth 100000

set_option maxHeartbeats 8000000 in
theorem refDeclare_any (w : World) (vl vw vc vv : Value) (L : Lay) (was : List Int) (clr : List Bool) (xs : List Vw) (part tr : Int) (hlay : LayV w w.heap.size vl L) (hL : Fits L) (hlw : was.length = L.parts.length) (hlc : clr.length = L.parts.length)
    (hw : Rd w w.heap.size vw (ivals was)) (hc : Rd w w.heap.size vc (cvals clr)) (hv : Vws w w.heap.size vv xs) (hx : OkV xs) :
    Calls Try.prog 24 #[vl, vw, vc, vv, .int .i64 part, .int .i64 tr] w (RetDecl (declL L was clr xs part tr) w) := by
  obtain ⟨A0, k0, c0, A1, k1, c1, A2, k2, c2, A3, k3, c3, A4, k4, c4, t0, t1, t2, t3, t4, hvl, _, _, hk2, _⟩ := hlay.lens
  subst hvl
  have hb0 := (Below.refl w.heap.size w).alloc (Nat.le_refl _) (.cells #[.slice A0 k0 c0, .slice A1 k1 c1, .slice A2 k2 c2, .slice A3 k3 c3, .slice A4 k4 c4, .int .i64 t0, .int .i64 t1, .int .i64 t2, .int .i64 t3, .int .i64 t4] 39)
  have HB0 := Lib.hid hb0
  have HL0 := Lib.hid (hlay.up hb0)
  have HR0 := Lib.hid (Row.new w 39 #[.slice A0 k0 c0, .slice A1 k1 c1, .slice A2 k2 c2, .slice A3 k3 c3, .slice A4 k4 c4, .int .i64 t0, .int .i64 t1, .int .i64 t2, .int .i64 t3, .int .i64 t4])
  have HW0 := Lib.hid ((hw.below hb0 (Nat.le_refl _)).mono hb0.size (fun _ _ => rfl))
  have HC0 := Lib.hid ((hc.below hb0 (Nat.le_refl _)).mono hb0.size (fun _ _ => rfl))
  have HV0 := Lib.hid (hv.up hb0)
  have HF := Lib.hid hL; have HX := Lib.hid hx
  obtain ⟨Aw, cw, rfl, -, -⟩ := id hw
  obtain ⟨Ac, cc, rfl, -, -⟩ := id hc
  obtain ⟨Av, cv, vvs, rfl, -⟩ := id hv
  have HK2 : Hid (L.parts.length = k2 ∧ k2 ≤ 100 ∧ was.length = k2 ∧ clr.length = k2) := ⟨hk2, by rw [← hk2]; exact hL.p, by rw [← hk2]; exact hlw, by rw [← hk2]; exact hlc⟩
  have hil : (ivals was).length = k2 := by rw [← hk2, ← hlw]; simp [ivals]
  have hcl : (cvals clr).length = k2 := by rw [← hk2, ← hlc]; simp [cvals]
  rw [hil] at HW0 ⊢
  rw [hcl] at HC0 ⊢
  clear hlay hb0 hL hlw hlc hw hc hv hx hil hcl hk2
  obtain ⟨i3, hi3, hz30, hz31, hz32⟩ := info_parts Try.info3n
  go_enter Try.func24, Try.ntmps24
  go_upto_region 1 with (fail)
  obtain ⟨n0, hn0⟩ : ∃ n, n = w.heap.size := ⟨_, rfl⟩
  have HN : Hid (n0 = w.heap.size) := hn0
  rw [← hn0] at HR0 ⊢
  clear hn0
  generalize w.alloc (.cells #[.slice A0 k0 c0, .slice A1 k1 c1, .slice A2 k2 c2, .slice A3 k3 c3, .slice A4 k4 c4, .int .i64 t0, .int .i64 t1, .int .i64 t2, .int .i64 t3, .int .i64 t4] 39) = W0 at *
  have hsz1 := HB0.out.size
  go_upto_region 3 with (at_builtin; refine wpList_app_rd rfl (.tmp 17) (.tmp 18) 45 rfl w.heap.size 3 i3 (.int .i64 0) Try.underlying45 hi3 hz30 hz31 hz32 rfl _ 0 [] rfl (World.ownsRow_nil _ _ _ _) _ was rfl HW0.out (by have := HK2.out; omega) hsz1 ?_)
  intro v1 w1 hown1 hgrow1
  try rw [Nat.zero_add, List.nil_append] at hown1
  obtain ⟨A9, c9, hv9⟩ := own_slice hown1
  subst hv9
  have hb1 : Below W0.heap.size W0 w1 := (Below.refl W0.heap.size W0).grown hgrow1 (Nat.le_refl _) (fun kk hk => by cases hk)
  have HO1 := Lib.hid hown1
  have HB1 := Lib.hid (HB0.out.trans (hb1.mono HB0.out.size))
  have HR1 := Lib.hid (Below.row hb1 HR0.out HR0.out.lt)
  have HL1 := Lib.hid (HL0.out.up hb1)
  have HC1 := Lib.hid (HC0.out.up hb1)
  have HV1 := Lib.hid (HV0.out.up hb1)
  obtain ⟨wl, hwl⟩ : ∃ n, was.length = n := ⟨_, rfl⟩
  have hwk : wl = k2 := by have := HK2.out; omega
  subst hwk
  have HWL := Lib.hid hwl
  rw [hwl] at HO1
  simp only [hwl]
  clear hb1 hown1 hgrow1 HB0 HR0 HL0 HC0 HV0 HW0 hwl hsz1
  have HRO : Hid (∀ (W' : World) (k : Int), Below w1.heap.size w1 W' → declL L was clr xs part tr = (was, k) → RetDecl (declL L was clr xs part tr) w (.returned (.tuple #[.slice A9 wl c9, .int .i64 k])) W') := fun W' k hW he => by
    rw [he]
    refine ⟨A9, c9, by rw [HWL.out], ?_, HB1.out.trans (hW.mono HB1.out.size)⟩
    rw [HWL.out]
    exact Rd.of_own (own_below HO1.out hW)
  have hfi := refFind_any w1 w1.heap.size _ xs tr HV1.out (Nat.le_refl _) HX.out.len
  have HFI := Lib.hid hfi
  clear hfi
  go_upto_region 3 with (fail)
  go_wp2_with fail
  refine HFI.out.mono ?_; rintro e w2 ⟨A5, c5, rfl, -, hb2⟩
  clear HFI
  cases hfv : findV xs tr with
  | none =>
    have hd : declL L was clr xs part tr = (was, 7) := by
      unfold declL
      rw [hfv]
      split
      · rfl
      · rfl
    have hb3 := (Below.refl w2.heap.size w2).alloc (Nat.le_refl _) (.cells #[.int .i64 noV.1, .bool noV.2.1, .slice A5 noV.2.2.length c5] 55)
    have HRT := Lib.hid (HRO.out _ 7 (hb2.trans (hb3.mono hb2.size)) hd)
    clear hd hb2 hb3 hfv
    go_upto_region 4 with (fail)
    generalize w2.alloc (.cells #[.int .i64 noV.1, .bool noV.2.1, .slice A5 noV.2.2.length c5] 55) = w3 at *
    go_wp2_with fail
    go_ret2
    exact HRT.out
  | some z =>
    have hb3 := (Below.refl w2.heap.size w2).alloc (Nat.le_refl _) (.cells #[.int .i64 z.1, .bool z.2.1, .slice A5 z.2.2.length c5] 55)
    have hb23 := hb2.trans (hb3.mono hb2.size)
    have HB3 := Lib.hid hb23
    have HR3 := Lib.hid (Below.row hb23 HR1.out HR1.out.lt)
    have HC3 := Lib.hid (HC1.out.up hb23)
    have HHO : Hid (∀ p : Nat, p < wl → Calls Try.prog 36 #[.agg #[.slice A0 k0 c0, .slice A1 k1 c1, .slice A2 wl c2, .slice A3 k3 c3, .slice A4 k4 c4, .int .i64 t0, .int .i64 t1, .int .i64 t2, .int .i64 t3, .int .i64 t4], .slice Av xs.length cv, .int .i64 (p : Int), .int .i64 tr] (w2.alloc (.cells #[.int .i64 z.1, .bool z.2.1, .slice A5 z.2.2.length c5] 55)) (RetL (holdsB xs (L.parts.getD p []) tr) (w2.alloc (.cells #[.int .i64 z.1, .bool z.2.1, .slice A5 z.2.2.length c5] 55)))) := fun p hp => holds_any _ _ _ L xs p tr (HL1.out.up hb23) HF.out (by have := HK2.out.1; omega) (HV1.out.up hb23) HX.out
    have HFS : Hid ((findV xs tr).isSome = true) := by show _ = _; rw [hfv]; rfl
    clear hb2 hb3 hb23 hfv HR1 HL1 HC1 HV1
    go_upto_region 4 with (fail)
    generalize w2.alloc (.cells #[.int .i64 z.1, .bool z.2.1, .slice A5 z.2.2.length c5] 55) = w3 at *
    have f0 := HR3.out.cell 0; have f1 := HR3.out.cell 1; have f2 := HR3.out.cell 2; have f3 := HR3.out.cell 3; have f4 := HR3.out.cell 4; have f5 := HR3.out.cell 5; have f6 := HR3.out.cell 6; have f7 := HR3.out.cell 7; have f8 := HR3.out.cell 8; have f9 := HR3.out.cell 9
    simp only [List.getElem?_toArray, List.getElem?_cons_zero, List.getElem?_cons_succ] at f0 f1 f2 f3 f4 f5 f6 f7 f8 f9
    by_cases hin : 0 ≤ part ∧ part < (wl : Int)
    · obtain ⟨p, rfl⟩ := Int.eq_ofNat_of_zero_le hin.1
      have hp1 : ¬ (p : Int) < 0 := by omega
      have hp2 : ¬ (wl : Int) ≤ (p : Int) := by omega
      have hpl : p < wl := by omega
      have hdc : declL L was clr xs (p : Int) tr = if clr.getD p false = true ∨ holdsB xs (L.parts.getD p []) tr = false then (was, 8) else (was.set p tr, 0) := by
        unfold declL
        rw [if_neg (by have := HK2.out.1; omega), if_neg (by rw [HFS.out]; simp), Int.toNat_natCast]
      have HDC := Lib.hid hdc
      have HHP := Lib.hid (HHO.out p hpl)
      obtain ⟨bc, oc, hAc, -, qc⟩ := HC3.out.at (i := p) (u := .bool (clr.getD p false)) (by have : p < clr.length := by { have := HK2.out; omega }; simp [cvals, this, List.getD])
      subst hAc
      have HPL := Lib.hid hpl
      clear hdc hin HHO
      obtain ⟨cb, hcb⟩ : ∃ b, clr.getD p false = b := ⟨_, rfl⟩
      obtain ⟨bo, hbo⟩ : ∃ b, holdsB xs (L.parts.getD p []) tr = b := ⟨_, rfl⟩
      rw [hcb] at qc HDC
      rw [hbo] at HHP HDC
      clear hcb hbo
      cases cb with
      | true =>
        have hd : declL L was clr xs (p : Int) tr = (was, 8) := by rw [HDC.out, if_pos (Or.inl rfl)]
        have HRT := Lib.hid (HRO.out _ 8 HB3.out hd)
        clear hd HDC HHP
        go_wp2_with fail
        go_ret2
        exact HRT.out
      | false =>
        go_wp2_with fail
        refine HHP.out.mono ?_; rintro e w4 ⟨rfl, hb4⟩
        have HB4 := Lib.hid (HB3.out.trans (hb4.mono HB3.out.size))
        clear hb4 HHP qc f0 f1 f2 f3 f4 f5 f6 f7 f8 f9
        cases bo with
        | false =>
          have hd : declL L was clr xs (p : Int) tr = (was, 8) := by rw [HDC.out, if_pos (Or.inr rfl)]
          have HRT := Lib.hid (HRO.out _ 8 HB4.out hd)
          clear hd HDC
          go_wp2_with fail
          go_ret2
          exact HRT.out
        | true =>
          have hd : declL L was clr xs (p : Int) tr = (was.set p tr, 0) := by rw [HDC.out, if_neg (by simp)]
          obtain ⟨g, hA9, hg, cg, zg, hset⟩ := own_put2 (own_below HO1.out HB4.out) HWL.out (I := p) (by rw [HWL.out]; exact HPL.out)
          subst hA9
          have HST := Lib.hid (hset tr)
          have HBZ : Hid (Below w.heap.size w (w4.setCell ⟨g, p, none⟩ (.int .i64 tr))) := (HB1.out.trans (HB4.out.mono HB1.out.size)).setCell (p := ⟨g, p, none⟩) hg _
          have HD := Lib.hid hd
          clear hd HDC hset hg
          go_wp2_with fail
          go_ret2
          rw [HD.out]
          refine ⟨some ⟨g, 0, none⟩, c9, by rw [List.length_set, HWL.out]; rfl, ?_, HBZ.out⟩
          rw [List.length_set, HWL.out]
          exact HST.out
    · have hd : declL L was clr xs part tr = (was, 7) := by unfold declL; rw [if_pos (by rw [HK2.out.1]; exact hin)]
      have HRT := Lib.hid (HRO.out w3 7 HB3.out hd)
      clear hd
      by_cases hp1 : part < 0
      · clear hin
        go_wp2_with fail
        go_ret2
        exact HRT.out
      · have hp2 : (wl : Int) ≤ part := by omega
        clear hin
        go_wp2_with fail
        go_ret2
        exact HRT.out

end Go.Proofs.Ythnjilbfkfekhaa
