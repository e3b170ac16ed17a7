/- Contract: Fits. -/
import Derived.Test.YtifcgkpannlnnaaF4
namespace Go.Proofs.Ytifcgkpannlnnaa
open Go.RowKit Fl
set_option maxRecDepth 100000

/-- A message's cells. -/
abbrev mcells (k tr ti d a : Int) (wh : Bool) (v : Value) : Array Value := #[.int .u8 k, .int .i64 tr, .int .i64 ti, .int .i64 d, .int .i64 a, .bool wh, v]
/-- Not the trail, but the rest may be so. -/
theorem fitsP_no {L : Lay} {t : List Int} {d a : Int} (h : ¬ (0 < t.length ∧ t.length ≤ 12)) : fitsP L t d a = false := by unfold fitsP; rw [decide_eq_false h]; rfl
theorem fitsP_dir {L : Lay} {t : List Int} {d a : Int} (h : ¬ (d = 0 ∨ d = 1)) : fitsP L t d a = false := by unfold fitsP; rw [decide_eq_false h]; simp
theorem fitsP_len {L : Lay} {t : List Int} {d a : Int} (h : ¬ (¬ lenL L.secs (t.getD 0 0) = 0 ∧ 0 ≤ a ∧ a ≤ lenL L.secs (t.getD 0 0))) : fitsP L t d a = false := by unfold fitsP; rw [decide_eq_false h]; simp
theorem fitsP_one {L : Lay} {t : List Int} {d a : Int} (h1 : t.length = 1) (h2 : d = 0 ∨ d = 1) (h3 : ¬ lenL L.secs (t.getD 0 0) = 0 ∧ 0 ≤ a ∧ a ≤ lenL L.secs (t.getD 0 0)) : fitsP L t d a = true := by
  unfold fitsP; rw [decide_eq_true (show 0 < t.length ∧ t.length ≤ 12 by omega), decide_eq_true h2, decide_eq_true h3, decide_eq_true h1]; rfl
theorem fitsP_more {L : Lay} {t : List Int} {d a : Int} (h0 : 0 < t.length ∧ t.length ≤ 12) (h1 : ¬ t.length = 1) (h2 : d = 0 ∨ d = 1) (h3 : ¬ lenL L.secs (t.getD 0 0) = 0 ∧ 0 ≤ a ∧ a ≤ lenL L.secs (t.getD 0 0)) : fitsP L t d a = comesB L t d := by
  unfold fitsP; rw [decide_eq_true h0, decide_eq_true h2, decide_eq_true h3, decide_eq_false h1]; simp

set_option maxHeartbeats 8000000 in
theorem fits_any (w : World) (D : Nat) (v : Value) (L : Lay) (A : Option Addr) (c : Nat) (t : List Int) (k tr ti d a : Int) (wh : Bool) (h : IsGr w D v L) (hD : D ≤ w.heap.size) (hL : Fits L) (ht : Rd w w.heap.size (.slice A t.length c) (ivals t)) (hl : t.length ≤ 1000) :
    Calls Try.prog 15 #[v, .agg (mcells k tr ti d a wh (.slice A t.length c))] w (RetL (fitsP L t d a) w) := by
  have hb := (Below.refl w.heap.size w).alloc (Nat.le_refl _) (.cells (mcells k tr ti d a wh (.slice A t.length c)) 42)
  have HB := Lib.hid hb
  have HI := Lib.hid (h.keep hb hD)
  have HT := Lib.hid (ht.up hb)
  have HR := Lib.hid (Row.new w 42 (mcells k tr ti d a wh (.slice A t.length c)))
  have HL := Lib.hid hL
  have HDW : Hid (D ≤ (w.alloc (.cells (mcells k tr ti d a wh (.slice A t.length c)) 42)).heap.size) := Nat.le_trans hD hb.size
  have hs0 := hL.s
  clear hb h ht hL
  obtain ⟨R, hR⟩ : ∃ R, fitsP L t d a = R := ⟨_, rfl⟩
  have H1 := Lib.hid (fun h => hR.symm.trans (fitsP_no (L := L) (t := t) (d := d) (a := a) h))
  have H2 := Lib.hid (fun h => hR.symm.trans (fitsP_dir (L := L) (t := t) (d := d) (a := a) h))
  have H3 := Lib.hid (fun h => hR.symm.trans (fitsP_len (L := L) (t := t) (d := d) (a := a) h))
  have H4 := Lib.hid (fun h1 h2 h3 => hR.symm.trans (fitsP_one (L := L) (t := t) (d := d) (a := a) h1 h2 h3))
  have H5 := Lib.hid (fun h0 h1 h2 h3 => hR.symm.trans (fitsP_more (L := L) (t := t) (d := d) (a := a) h0 h1 h2 h3))
  rw [hR]
  clear hR hD
  have go : ∀ (P : Prop), P → P := fun _ h => h
  obtain ⟨m, hm⟩ : ∃ m, t.length = m := ⟨_, rfl⟩
  have HM := Lib.hid hm
  rw [hm] at HI HB HT HR HDW hl ⊢
  by_cases c0 : m = 0
  · have HE := Lib.hid (H1.out (by omega))
    clear H1 H2 H3 H4 H5 HT
    have g0 : ((m : Int) == 0) = true := by simp; omega
    clear c0 hm
    go_enter Try.func15, Try.ntmps15
    go_upto_region 1 with (fail)
    obtain ⟨n0, hn0⟩ : ∃ n, w.heap.size = n := ⟨_, rfl⟩
    have HNN := Lib.hid hn0
    rw [hn0] at HR HB ⊢
    clear hn0
    generalize w.alloc (.cells #[.int .u8 k, .int .i64 tr, .int .i64 ti, .int .i64 d, .int .i64 a, .bool wh, .slice A m c] 42) = w1 at *
    have e3 := HR.out.cell 3; have e4 := HR.out.cell 4; have e6 := HR.out.cell 6
    simp only [List.getElem?_toArray, List.getElem?_cons_zero, List.getElem?_cons_succ] at e3 e4 e6
    go_wp2_with fail
    go_ret
    exact ⟨ret_bool HE.out.symm, by rw [HNN.out]; exact HB.out⟩
  · by_cases c1 : m ≤ 12
    · have hm0 : 0 < t.length := by have := HM.out; omega
      obtain ⟨b, o, hA, hbB, q0⟩ := HT.out.at (i := 0) (u := .int .i64 t[0]) (ivals_get t 0 hm0)
      subst hA
      rw [Nat.add_zero] at q0
      have HQ0 := Lib.hid q0
      have hx : t.getD 0 0 = t[0] := by simp [List.getD, hm0]
      have HX := Lib.hid hx
      obtain ⟨x, hx2⟩ : ∃ x, t[0] = x := ⟨_, rfl⟩
      rw [hx2] at HQ0 hx
      rw [hx] at H3 H4 H5
      clear q0 HX hx2 hx
      have g0 : ((m : Int) == 0) = false := by simp; omega
      have g1 : ¬ (12 : Int) < (m : Int) := by omega
      have g2 : ¬ 12 < m := by omega
      have g3 : (0 : Int) < (m : Int) := by omega
      have g4 : 0 < m := by omega
      by_cases hd : d = 0 ∨ d = 1
      · have hdd : (d != 0) = false ∨ ((d != 0) = true ∧ (d != 1) = false) := by
          rcases hd with rfl | rfl
          · exact .inl rfl
          · exact .inr ⟨rfl, rfl⟩
        obtain ⟨ln, hln⟩ : ∃ ln, lenL L.secs x = ln := ⟨_, rfl⟩
        have HLN := Lib.hid hln
        rw [hln] at H3 H4 H5
        clear hln
        by_cases hc : ¬ ln = 0 ∧ 0 ≤ a ∧ a ≤ ln
        · by_cases h1 : m = 1
          · have HE := Lib.hid (H4.out (by have := HM.out; omega) hd hc)
            obtain ⟨k1, k2, k3⟩ := hc
            have f0 : (ln == 0) = false := by simpa using k1
            have f1 : ¬ a < 0 := by omega
            have f2 : ¬ ln < a := by omega
            have f3 : ((m : Int) == 1) = true := by simp; omega
            clear H1 H2 H3 H4 H5 k1 k2 k3 h1 hd
            rcases hdd with hd0 | ⟨hd0, hd1⟩
            all_goals (
              go_enter Try.func15, Try.ntmps15
              go_upto_region 1 with (fail)
              obtain ⟨n0, hn0⟩ : ∃ n, w.heap.size = n := ⟨_, rfl⟩
              have HNN := Lib.hid hn0
              rw [hn0] at HR HB ⊢
              clear hn0
              have q0 := HQ0.out
              generalize w.alloc (.cells #[.int .u8 k, .int .i64 tr, .int .i64 ti, .int .i64 d, .int .i64 a, .bool wh, .slice (some ⟨b, o, none⟩) m c] 42) = w1 at *
              have e3 := HR.out.cell 3; have e4 := HR.out.cell 4; have e6 := HR.out.cell 6
              simp only [List.getElem?_toArray, List.getElem?_cons_zero, List.getElem?_cons_succ] at e3 e4 e6
              go_wp2_with fail
              refine (len_any w1 D _ L x HI.out HL.out).mono ?_; rintro e w' ⟨rfl, rfl⟩
              rw [HLN.out]
              go_wp2_with fail
              go_ret
              exact ⟨ret_bool HE.out.symm, by rw [HNN.out]; exact HB.out⟩)
          · have HE := Lib.hid (H5.out (by have := HM.out; omega) (by have := HM.out; omega) hd hc)
            obtain ⟨k1, k2, k3⟩ := hc
            have f0 : (ln == 0) = false := by simpa using k1
            have f1 : ¬ a < 0 := by omega
            have f2 : ¬ ln < a := by omega
            have f3 : ((m : Int) == 1) = false := by simp; omega
            clear H1 H2 H3 H4 H5 k1 k2 k3 hd
            have HCO := Lib.hid (comes_any _ D v L (some ⟨b, o, none⟩) c t d HI.out HDW.out HL.out (by rw [HM.out]; exact HT.out) (by have := HM.out; omega) (by have := HM.out; omega))
            rw [HM.out] at HCO
            rcases hdd with hd0 | ⟨hd0, hd1⟩
            all_goals (
              go_enter Try.func15, Try.ntmps15
              go_upto_region 1 with (fail)
              obtain ⟨n0, hn0⟩ : ∃ n, w.heap.size = n := ⟨_, rfl⟩
              have HNN := Lib.hid hn0
              rw [hn0] at HR HB ⊢
              clear hn0
              have q0 := HQ0.out
              generalize w.alloc (.cells #[.int .u8 k, .int .i64 tr, .int .i64 ti, .int .i64 d, .int .i64 a, .bool wh, .slice (some ⟨b, o, none⟩) m c] 42) = w1 at *
              have e3 := HR.out.cell 3; have e4 := HR.out.cell 4; have e6 := HR.out.cell 6
              simp only [List.getElem?_toArray, List.getElem?_cons_zero, List.getElem?_cons_succ] at e3 e4 e6
              go_wp2_with fail
              refine (len_any w1 D _ L x HI.out HL.out).mono ?_; rintro e w' ⟨rfl, rfl⟩
              rw [HLN.out]
              go_wp2_with fail
              refine HCO.out.mono ?_; rintro e w3 ⟨rfl, hb3⟩
              have HB3 : Hid (Below n0 w w3) := HB.out.trans (hb3.mono (by have := HB.out.size; have := HNN.out; omega))
              clear hb3
              go_wp2_with fail
              go_ret
              exact ⟨ret_bool HE.out.symm, by rw [HNN.out]; exact HB3.out⟩)
        · have HE := Lib.hid (H3.out hc)
          clear H1 H2 H3 H4 H5 hd
          have hcc : (ln == 0) = true ∨ ((ln == 0) = false ∧ a < 0) ∨ ((ln == 0) = false ∧ ¬ a < 0 ∧ ln < a) := by
            by_cases h1 : ln = 0
            · exact .inl (by simpa using h1)
            · have h2 : (ln == 0) = false := by simpa using h1
              by_cases h3 : a < 0
              · exact .inr (.inl ⟨h2, h3⟩)
              · exact .inr (.inr ⟨h2, h3, by omega⟩)
          clear hc
          rcases hcc with f0 | ⟨f0, f1⟩ | ⟨f0, f1, f2⟩
          all_goals (rcases hdd with hd0 | ⟨hd0, hd1⟩)
          all_goals (
            go_enter Try.func15, Try.ntmps15
            go_upto_region 1 with (fail)
            obtain ⟨n0, hn0⟩ : ∃ n, w.heap.size = n := ⟨_, rfl⟩
            have HNN := Lib.hid hn0
            rw [hn0] at HR HB ⊢
            clear hn0
            have q0 := HQ0.out
            generalize w.alloc (.cells #[.int .u8 k, .int .i64 tr, .int .i64 ti, .int .i64 d, .int .i64 a, .bool wh, .slice (some ⟨b, o, none⟩) m c] 42) = w1 at *
            have e3 := HR.out.cell 3; have e4 := HR.out.cell 4; have e6 := HR.out.cell 6
            simp only [List.getElem?_toArray, List.getElem?_cons_zero, List.getElem?_cons_succ] at e3 e4 e6
            go_wp2_with fail
            refine (len_any w1 D _ L x HI.out HL.out).mono ?_; rintro e w' ⟨rfl, rfl⟩
            rw [HLN.out]
            go_wp2_with fail
            go_ret
            exact ⟨ret_bool HE.out.symm, by rw [HNN.out]; exact HB.out⟩)
      · have HE := Lib.hid (H2.out hd)
        have hd0 : (d != 0) = true := by simp; omega
        have hd1 : (d != 1) = true := by simp; omega
        clear H1 H2 H3 H4 H5 hd
        go_enter Try.func15, Try.ntmps15
        go_upto_region 1 with (fail)
        obtain ⟨n0, hn0⟩ : ∃ n, w.heap.size = n := ⟨_, rfl⟩
        have HNN := Lib.hid hn0
        rw [hn0] at HR HB ⊢
        clear hn0
        generalize w.alloc (.cells #[.int .u8 k, .int .i64 tr, .int .i64 ti, .int .i64 d, .int .i64 a, .bool wh, .slice (some ⟨b, o, none⟩) m c] 42) = w1 at *
        have e3 := HR.out.cell 3; have e4 := HR.out.cell 4; have e6 := HR.out.cell 6
        simp only [List.getElem?_toArray, List.getElem?_cons_zero, List.getElem?_cons_succ] at e3 e4 e6
        go_wp2_with fail
        go_ret
        exact ⟨ret_bool HE.out.symm, by rw [HNN.out]; exact HB.out⟩
    · have HE := Lib.hid (H1.out (by omega))
      clear H1 H2 H3 H4 H5 HT
      have g0 : ((m : Int) == 0) = false := by simp; omega
      have g1 : (12 : Int) < (m : Int) := by omega
      go_enter Try.func15, Try.ntmps15
      go_upto_region 1 with (fail)
      obtain ⟨n0, hn0⟩ : ∃ n, w.heap.size = n := ⟨_, rfl⟩
      have HNN := Lib.hid hn0
      rw [hn0] at HR HB ⊢
      clear hn0
      generalize w.alloc (.cells #[.int .u8 k, .int .i64 tr, .int .i64 ti, .int .i64 d, .int .i64 a, .bool wh, .slice A m c] 42) = w1 at *
      have e3 := HR.out.cell 3; have e4 := HR.out.cell 4; have e6 := HR.out.cell 6
      simp only [List.getElem?_toArray, List.getElem?_cons_zero, List.getElem?_cons_succ] at e3 e4 e6
      go_wp2_with fail
      go_ret
      exact ⟨ret_bool HE.out.symm, by rw [HNN.out]; exact HB.out⟩

end Go.Proofs.Ytifcgkpannlnnaa
