/- Contract: comesOut. -/
import Derived.Test.YtifcgkpannlnnaaF3
import Derived.Deep.RegionHeld3
import Derived.Deep.DeepCutAuto
namespace Go.Proofs.Ytifcgkpannlnnaa
open Go.RowKit Fl
set_option maxRecDepth 100000

theorem Row.ends {w : World} {g : Nat} {a b : Int} (h : Row w g 85 #[.int .i64 a, .int .i64 b]) (c d : Int) : Row ((w.setCell ⟨g, 0, none⟩ (.int .i64 c)).setCell ⟨g, 1, none⟩ (.int .i64 d)) g 85 #[.int .i64 c, .int .i64 d] := (h.set 0 (.int .i64 c)).set 1 (.int .i64 d)

set_option maxHeartbeats 8000000 in
theorem comes_any (w : World) (D : Nat) (v : Value) (L : Lay) (A : Option Addr) (c : Nat) (t : List Int) (d : Int) (h : IsGr w D v L) (hD : D ≤ w.heap.size) (hL : Fits L) (ht : Rd w w.heap.size (.slice A t.length c) (ivals t)) (hl2 : 2 ≤ t.length) (hl : t.length ≤ 1000) :
    Calls Try.prog 37 #[v, .slice A t.length c, .int .i64 d] w (RetL (comesB L t d) w) := by
  have HI := Lib.hid h
  have HT := Lib.hid ht
  have HL := Lib.hid hL
  obtain ⟨g, vS, vQ, vP, rfl, -⟩ := h
  clear ht hL
  obtain ⟨a, q, hq⟩ : ∃ a q, t.reverse = a :: q := by
    cases e : t.reverse with
    | nil =>
      have : t.length = 0 := by rw [← List.length_reverse, e]; rfl
      omega
    | cons a q => exact ⟨a, q, rfl⟩
  have HLEN : Hid (q.length + 1 = t.length) := by have h := congrArg List.length hq; simp at h; exact h.symm
  have HC : Hid (comesB L t d = ((pathL L (a :: q)).isSome && decide ((outL L a q).2 = d))) := by show _ = _; unfold comesB; rw [hq]; rfl
  obtain ⟨R, hR⟩ : ∃ R, comesB L t d = R := ⟨_, rfl⟩
  rw [hR] at HC ⊢
  have HQ := Lib.hid hq
  clear hR hq
  obtain ⟨B0, hB0⟩ : ∃ n, w.heap.size = n := ⟨_, rfl⟩
  have HBE := Lib.hid hB0
  have hDB : D ≤ B0 := by omega
  clear hB0 hD
  go_enter Try.func37, Try.ntmps37
  go_wp2_with fail
  refine (clone38 w _ _ t HT.out (by omega)).mono ?_; rintro e w1 ⟨v1, rfl, ho1, hb1⟩
  obtain ⟨A1, c1, hv1⟩ := own_slice ho1
  subst hv1
  rw [HBE.out] at ho1 hb1
  have HO1 := Lib.hid ho1
  have HB1 := Lib.hid hb1
  have HS1 : Hid (B0 ≤ w1.heap.size) := by have := hb1.size; have := HBE.out; show B0 ≤ _; omega
  clear ho1 hb1 HT
  go_wp2_with fail
  refine (reverse_own w1 B0 _ t HO1.out HS1.out (by omega)).mono ?_; rintro e w2 ⟨rfl, ho2, hb2⟩
  rw [HQ.out] at ho2
  have HO2 := Lib.hid ho2
  have HB2 : Hid (Below B0 w w2) := HB1.out.trans hb2
  have HS2 : Hid (B0 ≤ w2.heap.size) := Nat.le_trans HS1.out hb2.size
  have HR2 : Hid (Rd w2 w2.heap.size (.slice A1 (a :: q).length c1) (ivals (a :: q))) := by
    have h := Rd.of_own ho2
    have e : (a :: q).length = t.length := by have := HLEN.out; simpa using this
    rw [e]; exact h
  clear ho2 hb2 HO1 HB1 HS1
  obtain ⟨m, hm⟩ : ∃ m, t.length = m := ⟨_, rfl⟩
  rw [hm] at HLEN HO2 hl2 hl ⊢
  have hml : (a :: q).length = m := by have := HLEN.out; simpa using this
  have HPA := Lib.hid (path_any w2 D _ L A1 c1 (a :: q) (HI.out.keep HB2.out hDB) (Nat.le_trans hDB HS2.out) HL.out HR2.out (by omega))
  rw [hml] at HPA HR2
  clear hm hml
  go_wp2_with fail
  refine HPA.out.mono ?_; rintro e w3 ⟨v3, rfl, ho3, hb3⟩
  obtain ⟨A3, c3, hv3⟩ := own_slice ho3
  subst hv3
  have HO4 := Lib.hid (own_below HO2.out hb3)
  have HB3 : Hid (Below B0 w w3) := HB2.out.trans (hb3.mono HS2.out)
  have HS3 : Hid (B0 ≤ w3.heap.size) := Nat.le_trans HS2.out hb3.size
  clear ho3 hb3 HPA HO2 HB2 HS2 HR2
  generalize (pathL L (a :: q)).isSome = pb at *
  generalize ((pathL L (a :: q)).getD []).length = pn at *
  cases pb with
  | false =>
    have HF : Hid (R = false) := by show _ = _; rw [HC.out]; rfl
    go_wp2_with fail
    go_ret
    exact ⟨ret_bool HF.out.symm, by rw [HBE.out]; exact HB3.out⟩
  | true =>
    have HF : Hid (R = decide ((outL L a q).2 = d)) := by show _ = _; rw [HC.out]; rfl
    clear HC
    rcases HO4.out.2 with ⟨hv, h0⟩ | ⟨b, cap, cur, hv, hbb, hg, hc1, hc2, hc3, hc4⟩
    · omega
    · injection hv with e1 e2 e3
      subst e1 e3
      have HROW : Hid (∀ W, Below w3.heap.size w3 W → W.cell? ⟨b, 0, none⟩ = some (.int .i64 a)) := fun W hW => by
        have h := (Rd.of_own (own_below HO4.out hW)).at (i := 0) (u := .int .i64 a) (by simp [ivals])
        obtain ⟨b', o', hA', _, h2⟩ := h
        injection hA' with hA'
        injection hA' with e1 e2
        subst e1 e2
        exact h2
      have HREST : Hid (∀ W, Below w3.heap.size w3 W → Rd W W.heap.size (.slice (some ⟨b, 1, none⟩) (m - 1) (c1 - 1)) (ivals q)) := fun W hW => by
        have h := Rd.of_own (own_below HO4.out hW)
        obtain ⟨A', c', hv', ⟨h0', h1'⟩, hx'⟩ := h
        have hlen : (ivals (a :: q)).length = m := by have := HLEN.out; simp [ivals]; omega
        rw [hlen] at hv' hx' h1'
        injection hv' with e1 e2 e3
        subst e1 e3
        obtain ⟨b', o', hA', hlt, hcell⟩ := hx' (by omega)
        injection hA' with hA'
        injection hA' with e1 e2
        subst e1 e2
        have hql : q.length = m - 1 := by have := HLEN.out; omega
        refine ⟨some ⟨b, 1, none⟩, c1 - 1, by rw [ivals_length, hql], ⟨(fun e => by cases e), by rw [ivals_length, hql]; omega⟩, fun _ => ⟨b, 1, rfl, hlt, fun j u hu => ?_⟩⟩
        have := hcell (j + 1) u (by simpa [ivals] using hu)
        rw [show 1 + j = 0 + (j + 1) by omega]; exact this
      have HTH : Hid (∀ W (k : Int), Below w3.heap.size w3 W → Calls Try.prog 51 #[.pointer (some ⟨g, 0, none⟩), .agg #[.int .i64 a, .int .i64 k], .slice (some ⟨b, 1, none⟩) (m - 1) (c1 - 1)] W (RetThru (thruL L (a, k) q) W)) := fun W k hW => by
        have hbw : Below B0 w W := HB3.out.trans (hW.mono HS3.out)
        have hql : m - 1 = q.length := by have := HLEN.out; omega
        have hr := HREST.out W hW
        rw [hql] at hr ⊢
        exact thru_any W D _ L a k _ _ q (HI.out.keep hbw hDB) (Nat.le_trans hDB (Nat.le_trans HS3.out hW.size)) HL.out hr (by omega)
      have HBLT : Hid (b < w3.heap.size) := heap_lt hg
      have g1 : ¬ c1 = 1 := by omega
      have g2 : (0 : Int) < (m : Int) := by omega
      have g3 : (1 : Int) ≤ (m : Int) := by omega
      have g4 : 0 < m := by omega
      have g5 : 1 ≤ m := by omega
      have HOUT : Hid (outL L a q = match thruL L (a, 0) q with | some o => o | none => (thruL L (a, 1) q).getD (0, 0)) := rfl
      clear hbb hg hc2 hc3 hc4 HREST HO4 HQ
      obtain ⟨r0, hr0⟩ : ∃ r0, thruL L (a, 0) q = r0 := ⟨_, rfl⟩
      have HTH0 : Hid (∀ W, Below w3.heap.size w3 W → Calls Try.prog 51 #[.pointer (some ⟨g, 0, none⟩), .agg #[.int .i64 a, .int .i64 0], .slice (some ⟨b, 1, none⟩) (m - 1) (c1 - 1)] W (RetThru r0 W)) := fun W hW => by rw [← hr0]; exact HTH.out W 0 hW
      rw [hr0] at HOUT
      obtain ⟨x0, hx0⟩ : ∃ x, (r0.getD (0, 0)).1 = x := ⟨_, rfl⟩
      obtain ⟨y0, hy0⟩ : ∃ y, (r0.getD (0, 0)).2 = y := ⟨_, rfl⟩
      obtain ⟨k0, hk0⟩ : ∃ k, r0.isSome = k := ⟨_, rfl⟩
      have HXY : Hid ((r0.getD (0, 0)).1 = x0 ∧ (r0.getD (0, 0)).2 = y0 ∧ r0.isSome = k0) := ⟨hx0, hy0, hk0⟩
      have HTH1 : Hid (∀ W, Below w3.heap.size w3 W → Calls Try.prog 51 #[.pointer (some ⟨g, 0, none⟩), .agg #[.int .i64 a, .int .i64 0], .slice (some ⟨b, 1, none⟩) (m - 1) (c1 - 1)] W (fun e w' => e = .returned (.tuple #[.agg #[.int .i64 x0, .int .i64 y0], .bool k0]) ∧ Below W.heap.size W w')) := fun W hW => by rw [← hx0, ← hy0, ← hk0]; exact HTH0.out W hW
      clear hx0 hy0 hk0 HTH0 hr0
      have d0 := HROW.out w3.drew (by exact (Below.refl _ _).drew)
      have HBD : Hid (Below w3.heap.size w3 w3.drew) := (Below.refl _ _).drew
      go_upto_region 6 with (fail)
      go_cut [10, 11] (fun v1 v2 wx => ∃ nx, v1 = .pointer (some ⟨nx, 0, none⟩) ∧ v2 = .bool k0 ∧ Hid (Row wx nx 85 #[.int .i64 x0, .int .i64 y0] ∧ Below w3.heap.size w3 wx ∧ w3.heap.size ≤ nx))
      case first =>
        rename_i J K' hJ hK
        have hba : Below w3.heap.size w3 (w3.alloc (.cells #[.int .i64 0, .int .i64 0] 85)).drew := ((Below.refl _ _).alloc (Nat.le_refl _) _).drew
        have HBA := Lib.hid hba
        have sA := HROW.out _ hba
        have HRA : Hid (Row (w3.alloc (.cells #[.int .i64 0, .int .i64 0] 85)).drew w3.heap.size 85 #[.int .i64 0, .int .i64 0]) := Row.new w3 85 #[.int .i64 0, .int .i64 0]
        clear hba
        go_region_held3 (fun w' => w'.cell? ⟨b, 0, none⟩ = some (.int .i64 a)) (first | assumption | exact sA | go_keep) (first | (go_at_call 51; (with_reducible refine (HTH1.out w3.drew HBD.out).mono ?_); rintro e w5 ⟨rfl, hb5⟩; have HB5 : Hid (Below w3.heap.size w3 w5) := HBD.out.trans hb5; have d5 := HROW.out w5 HB5.out; have HB6 : Hid (Below w3.heap.size w3 (w5.alloc (.cells #[.int .i64 0, .int .i64 0] 85))) := HB5.out.alloc HB5.out.size _; have d6 := HROW.out _ HB6.out; have HB7 : Hid (Below w3.heap.size w3 (w5.alloc (.cells #[.int .i64 x0, .int .i64 y0] 85))) := HB5.out.alloc HB5.out.size _; have d7 := HROW.out _ HB7.out; have HR7 := Lib.hid (Row.new w5 85 #[.int .i64 x0, .int .i64 y0]); clear hb5) | (go_at_call 51; (with_reducible refine (HTH1.out _ HBA.out).mono ?_); rintro e w5 ⟨rfl, hb5⟩; have HB5 : Hid (Below w3.heap.size w3 w5) := HBA.out.trans (hb5.mono HBA.out.size); have d5 := HROW.out w5 HB5.out; have hr5 := Below.row hb5 HRA.out HRA.out.lt; have z5 := hr5.cell 0; have z6 := hr5.cell 1; have z7 := hr5.frozen 0; have z8 := hr5.frozen 1; simp only [List.getElem?_toArray, List.getElem?_cons_zero, List.getElem?_cons_succ] at z5 z6; have HR7 := Lib.hid (hr5.ends x0 y0); have HB7 : Hid (Below w3.heap.size w3 ((w5.setCell ⟨w3.heap.size, 0, none⟩ (.int .i64 x0)).setCell ⟨w3.heap.size, 1, none⟩ (.int .i64 y0))) := (HB5.out.setCell (p := ⟨w3.heap.size, 0, none⟩) (Nat.le_refl _) _).setCell (p := ⟨w3.heap.size, 1, none⟩) (Nat.le_refl _) _; have d7 := HROW.out _ HB7.out; clear hb5 hr5))
        all_goals (refine hK _ _ (Met.intro (hJ _ _ ?_)); (repeat apply Exists.intro); refine ⟨?rel, rfl⟩; case rel => exact ⟨_, rfl, rfl, HR7.out, HB7.out, by first | exact Nat.le_refl _ | exact HB5.out.size⟩)
      case rest =>
        obtain ⟨nx, rfl, rfl, HC6⟩ := hcut
        clear d0 HBD
        cases k0 with
        | true =>
          have HY : Hid (R = decide (y0 = d)) := by
            show _ = _
            rw [HF.out, HOUT.out]
            have h := HXY.out
            cases r0 with
            | none => cases h.2.2
            | some o => rw [← h.2.1]; rfl
          have c0 := HC6.out.1.cell 0; have c1' := HC6.out.1.cell 1
          simp only [List.getElem?_toArray, List.getElem?_cons_zero, List.getElem?_cons_succ] at c0 c1'
          have HEQ : Hid ((y0 == d) = decide (y0 = d)) := by show _ = _; rw [Bool.eq_iff_iff]; simp
          have HBF : Hid (Below B0 w wc) := HB3.out.trans (HC6.out.2.1.mono HS3.out)
          go_wp2_with fail
          go_ret
          exact ⟨ret_bool (by rw [HY.out]; exact HEQ.out), by rw [HBE.out]; exact HBF.out⟩
        | false =>
          obtain ⟨r1, hr1⟩ : ∃ r1, thruL L (a, 1) q = r1 := ⟨_, rfl⟩
          rw [hr1] at HOUT
          obtain ⟨x1, hx1⟩ : ∃ x, (r1.getD (0, 0)).1 = x := ⟨_, rfl⟩
          obtain ⟨y1, hy1⟩ : ∃ y, (r1.getD (0, 0)).2 = y := ⟨_, rfl⟩
          have HTH2 : Hid (∀ W, Below w3.heap.size w3 W → Calls Try.prog 51 #[.pointer (some ⟨g, 0, none⟩), .agg #[.int .i64 a, .int .i64 1], .slice (some ⟨b, 1, none⟩) (m - 1) (c1 - 1)] W (fun e w' => e = .returned (.tuple #[.agg #[.int .i64 x1, .int .i64 y1], .bool r1.isSome]) ∧ Below W.heap.size W w')) := fun W hW => by rw [← hx1, ← hy1, ← hr1]; exact HTH.out W 1 hW
          have HY : Hid (R = decide (y1 = d)) := by
            show _ = _
            rw [HF.out, HOUT.out]
            have h := HXY.out
            cases r0 with
            | none => rw [← hy1]
            | some o => cases h.2.2
          have HEQ : Hid ((y1 == d) = decide (y1 = d)) := by show _ = _; rw [Bool.eq_iff_iff]; simp
          generalize r1.isSome = k1 at *
          clear hr1 hx1 hy1 HTH1 HTH HOUT HXY
          have HWD : Hid (Below w3.heap.size w3 wc.drew) := HC6.out.2.1.drew
          have d0 := HROW.out wc.drew HWD.out
          have HRX : Hid (Row wc.drew nx 85 #[.int .i64 x0, .int .i64 y0]) := HC6.out.1
          have HNX : Hid (w3.heap.size ≤ nx) := HC6.out.2.2
          clear HC6
          go_upto_region 8 with (fail)
          go_region_held3 (fun w' => w'.cell? ⟨b, 0, none⟩ = some (.int .i64 a)) (first | assumption | go_keep) (first | (go_at_call 51; (with_reducible refine (HTH2.out wc.drew HWD.out).mono ?_); rintro e w5 ⟨rfl, hb5⟩; have HB5 : Hid (Below w3.heap.size w3 w5) := HWD.out.trans (hb5.mono HWD.out.size); have d5 := HROW.out w5 HB5.out; have hr5 := Below.row hb5 HRX.out HRX.out.lt; have z5 := hr5.cell 0; have z6 := hr5.cell 1; have z7 := hr5.frozen 0; have z8 := hr5.frozen 1; simp only [List.getElem?_toArray, List.getElem?_cons_zero, List.getElem?_cons_succ] at z5 z6; have HR7 := Lib.hid (hr5.ends x1 y1); have HB7 : Hid (Below w3.heap.size w3 ((w5.setCell ⟨nx, 0, none⟩ (.int .i64 x1)).setCell ⟨nx, 1, none⟩ (.int .i64 y1))) := (HB5.out.setCell (p := ⟨nx, 0, none⟩) HNX.out _).setCell (p := ⟨nx, 1, none⟩) HNX.out _; have d7 := HROW.out _ HB7.out; clear hb5 hr5))
          have c0 := HR7.out.cell 0; have c1' := HR7.out.cell 1
          simp only [List.getElem?_toArray, List.getElem?_cons_zero, List.getElem?_cons_succ] at c0 c1'
          have HBF : Hid (Below B0 w ((w5.setCell ⟨nx, 0, none⟩ (.int .i64 x1)).setCell ⟨nx, 1, none⟩ (.int .i64 y1))) := HB3.out.trans (HB7.out.mono HS3.out)
          clear HR7 HB7 z5 z6 z7 z8 d5 d7
          generalize (w5.setCell ⟨nx, 0, none⟩ (.int .i64 x1)).setCell ⟨nx, 1, none⟩ (.int .i64 y1) = w9 at *
          go_wp2_with fail
          go_ret
          exact ⟨ret_bool (by rw [HY.out]; exact HEQ.out), by rw [HBE.out]; exact HBF.out⟩

end Go.Proofs.Ytifcgkpannlnnaa
