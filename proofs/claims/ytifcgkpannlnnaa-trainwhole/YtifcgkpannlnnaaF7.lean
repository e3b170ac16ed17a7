/- Contract: the document's Fits. -/
import Derived.Test.YtifcgkpannlnnaaF6
import Derived.Test.YtifcgkpannlnnaaRise
import Derived.IntWalk
namespace Go.Proofs.Ytifcgkpannlnnaa
open Go.RowKit Fl
set_option maxRecDepth 100000

/-- A message's cells. -/
abbrev mcellsR (k tr ti d a : Int) (wh : Bool) (v : Value) : Array Value := #[.int .u8 k, .int .i64 tr, .int .i64 ti, .int .i64 d, .int .i64 a, .bool wh, v]
/-- The first part. -/
def okR (t : List Int) (d a : Int) : Prop := 0 < t.length ∧ t.length ≤ 12 ∧ (d = 0 ∨ d = 1) ∧ 0 ≤ a ∧ (riseL t).length = t.length
instance (t : List Int) (d a : Int) : Decidable (okR t d a) := by unfold okR; infer_instance
theorem fitsR_no {L : Lay} {t : List Int} {d a : Int} (h : ¬ okR t d a) : fitsR L t d a = false := by
  unfold okR at h; unfold fitsR; rw [decide_eq_false h]; rfl
theorem fitsR_len {L : Lay} {t : List Int} {d a : Int} (j : Nat) (hj : j < t.length) (h : lenL L.secs t[j] = 0) : fitsR L t d a = false := by
  unfold fitsR
  have : (t.all fun x => !(lenL L.secs x == 0)) = false := by
    rw [List.all_eq_false]
    exact ⟨t[j], List.getElem_mem hj, by rw [h]; decide⟩
  rw [this]; simp
theorem fitsR_far {L : Lay} {t : List Int} {d a : Int} (h : ¬ a ≤ lenL L.secs (t.getD 0 0)) : fitsR L t d a = false := by
  unfold fitsR; rw [decide_eq_false h]; simp
theorem fitsR_thru {L : Lay} {t : List Int} {d a : Int} (h : okR t d a) (hj : ∀ j (h : j < t.length), ¬ lenL L.secs t[j] = 0) (h2 : a ≤ lenL L.secs (t.getD 0 0)) : fitsR L t d a = (thruL L (t.getD 0 0, 1 - d) (t.drop 1)).isSome := by
  unfold okR at h; unfold fitsR
  have : (t.all fun x => !(lenL L.secs x == 0)) = true := by
    rw [List.all_eq_true]
    intro x hx
    obtain ⟨j, hj', rfl⟩ := List.getElem_of_mem hx
    simpa using hj j hj'
  rw [this, decide_eq_true h, decide_eq_true h2]; rfl

set_option maxHeartbeats 16000000 in
theorem refFits_any (w : World) (D : Nat) (v : Value) (L : Lay) (A : Option Addr) (c : Nat) (t : List Int) (k tr ti d a : Int) (wh : Bool) (h : LayV w D v L) (hD : D ≤ w.heap.size) (hL : Fits L) (ht : Rd w w.heap.size (.slice A t.length c) (ivals t)) (hl : t.length ≤ 1000) :
    Calls Try.prog 16 #[v, .agg (mcellsR k tr ti d a wh (.slice A t.length c))] w (RetL (fitsR L t d a) w) := by
  have HV := Lib.hid h
  obtain ⟨A0, k0, c0, A1, k1, c1, A2, k2, c2, A3, k3, c3, A4, k4, c4, t0, t1, t2, t3, t4, rfl, -, -, -, -⟩ := h.lens
  have HNO := Lib.hid (fitsR_no (L := L) (t := t) (d := d) (a := a))
  have HLE := Lib.hid (fitsR_len (L := L) (t := t) (d := d) (a := a))
  have HFA := Lib.hid (fitsR_far (L := L) (t := t) (d := d) (a := a))
  have HTH := Lib.hid (fitsR_thru (L := L) (t := t) (d := d) (a := a))
  obtain ⟨R, hR⟩ : ∃ R, fitsR L t d a = R := ⟨_, rfl⟩
  rw [hR] at HNO HLE HFA HTH ⊢
  obtain ⟨m, hm⟩ : ∃ m, t.length = m := ⟨_, rfl⟩
  have HM := Lib.hid hm
  have hb0 := below2 w (.cells #[.slice A0 k0 c0, .slice A1 k1 c1, .slice A2 k2 c2, .slice A3 k3 c3, .slice A4 k4 c4, .int .i64 t0, .int .i64 t1, .int .i64 t2, .int .i64 t3, .int .i64 t4] 36) (.cells #[.int .u8 k, .int .i64 tr, .int .i64 ti, .int .i64 d, .int .i64 a, .bool wh, .slice A m c] 42)
  have HT := Lib.hid (ht.below hb0 (Nat.le_refl _))
  have HTW := Lib.hid ht
  have HB := Lib.hid hb0
  have HRL := Lib.hid ((Row.new w 36 #[.slice A0 k0 c0, .slice A1 k1 c1, .slice A2 k2 c2, .slice A3 k3 c3, .slice A4 k4 c4, .int .i64 t0, .int .i64 t1, .int .i64 t2, .int .i64 t3, .int .i64 t4]).alloc (.cells #[.int .u8 k, .int .i64 tr, .int .i64 ti, .int .i64 d, .int .i64 a, .bool wh, .slice A m c] 42))
  have hr1 := Row.new (w.alloc (.cells #[.slice A0 k0 c0, .slice A1 k1 c1, .slice A2 k2 c2, .slice A3 k3 c3, .slice A4 k4 c4, .int .i64 t0, .int .i64 t1, .int .i64 t2, .int .i64 t3, .int .i64 t4] 36)) 42 #[.int .u8 k, .int .i64 tr, .int .i64 ti, .int .i64 d, .int .i64 a, .bool wh, .slice A m c]
  rw [World.size_alloc] at hr1
  have HRM := Lib.hid hr1
  have HL := Lib.hid hL
  rw [hm] at HT HTW hl ⊢
  clear hR hm hr1 hb0 ht hL
  go_enter Try.func16, Try.ntmps16
  go_upto_region 1 with (fail)
  obtain ⟨n0, hn0⟩ : ∃ n, w.heap.size = n := ⟨_, rfl⟩
  obtain ⟨n1, hn1⟩ : ∃ n, n0 + 1 = n := ⟨_, rfl⟩
  rw [hn0] at HB HT HTW HRL HRM ⊢
  rw [hn1] at HRM ⊢
  have HN : Hid (w.heap.size = n0 ∧ n0 + 1 = n1) := ⟨hn0, hn1⟩
  have hDn : D ≤ n0 := by omega
  have hn01 : n0 ≤ n1 := by omega
  clear hn0 hn1 hD
  generalize (w.alloc (.cells #[.slice A0 k0 c0, .slice A1 k1 c1, .slice A2 k2 c2, .slice A3 k3 c3, .slice A4 k4 c4, .int .i64 t0, .int .i64 t1, .int .i64 t2, .int .i64 t3, .int .i64 t4] 36)).alloc (.cells #[.int .u8 k, .int .i64 tr, .int .i64 ti, .int .i64 d, .int .i64 a, .bool wh, .slice A m c] 42) = W0 at *
  have HD0 : Hid (n1 < W0.heap.size) := HRM.out.lt
  have e3 := HRM.out.cell 3; have e4 := HRM.out.cell 4; have e6 := HRM.out.cell 6
  simp only [List.getElem?_toArray, List.getElem?_cons_zero, List.getElem?_cons_succ] at e3 e4 e6
  go_upto_region 2 with (fail)
  go_cut [42] (fun v2 wx => v2 = .bool (!decide (okR t d a)) ∧ Hid (Below n0 w wx) ∧ Hid (Row wx n0 36 #[.slice A0 k0 c0, .slice A1 k1 c1, .slice A2 k2 c2, .slice A3 k3 c3, .slice A4 k4 c4, .int .i64 t0, .int .i64 t1, .int .i64 t2, .int .i64 t3, .int .i64 t4]) ∧ Hid (Row wx n1 42 #[.int .u8 k, .int .i64 tr, .int .i64 ti, .int .i64 d, .int .i64 a, .bool wh, .slice A m c]))
  case first =>
    have HOK : Hid (¬ (0 < m ∧ m ≤ 12 ∧ (d = 0 ∨ d = 1) ∧ 0 ≤ a) → (!decide (okR t d a)) = true) := fun hh => by
      rw [decide_eq_false]; · rfl
      · unfold okR; have := HM.out; rintro ⟨q1, q2, q3, q4, -⟩; exact hh ⟨by omega, by omega, q3, q4⟩
    by_cases b0 : m < 1
    · have hs := Lib.hid (HOK.out (by omega))
      have g0 : (m : Int) < 1 := by omega
      go_wp2_with fail
      go_meet
      case rel => exact ⟨by rw [hs.out], HB, HRL, HRM⟩
    · have g0 : ¬ (m : Int) < 1 := by omega
      by_cases b1 : 12 < m
      · have hs := Lib.hid (HOK.out (by omega))
        have g1 : (12 : Int) < (m : Int) := by omega
        go_wp2_with fail
        go_meet
        case rel => exact ⟨by rw [hs.out], HB, HRL, HRM⟩
      · have g1 : ¬ (12 : Int) < (m : Int) := by omega
        by_cases b2 : d < 0
        · have hs := Lib.hid (HOK.out (by omega))
          go_wp2_with fail
          go_meet
          case rel => exact ⟨by rw [hs.out], HB, HRL, HRM⟩
        · by_cases b3 : 1 < d
          · have hs := Lib.hid (HOK.out (by omega))
            go_wp2_with fail
            go_meet
            case rel => exact ⟨by rw [hs.out], HB, HRL, HRM⟩
          · by_cases b4 : a < 0
            · have hs := Lib.hid (HOK.out (by omega))
              go_wp2_with fail
              go_meet
              case rel => exact ⟨by rw [hs.out], HB, HRL, HRM⟩
            · have HOK2 : Hid ((!decide (okR t d a)) = !decide ((riseL t).length = m)) := by
                show _ = _
                congr 1
                rw [decide_eq_decide]
                unfold okR
                have := HM.out
                constructor
                · rintro ⟨-, -, -, -, q⟩; omega
                · intro q; exact ⟨by omega, by omega, by omega, by omega, by omega⟩
              have HRR := Lib.hid (refRise_any W0 (.slice A m c) t (HT.out.mono (by have := HD0.out; omega) (fun _ _ => rfl)) (by have := HM.out; omega))
              go_wp2_with fail
              refine HRR.out.mono ?_; rintro e w1 ⟨v1, rfl, ho1, hb1⟩
              obtain ⟨A9, c9, hv9⟩ := own_slice ho1
              subst hv9
              have HB1 : Hid (Below n0 w w1) := HB.out.trans (hb1.mono (by have := HD0.out; omega))
              have HRL1 := Lib.hid (Below.row hb1 HRL.out HRL.out.lt)
              have HRM1 := Lib.hid (Below.row hb1 HRM.out HRM.out.lt)
              clear ho1 hb1
              generalize (riseL t).length = rl at *
              by_cases b5 : rl = m
              · have hs : Hid ((!decide (okR t d a)) = false) := by show _ = _; rw [HOK2.out, decide_eq_true b5]; rfl
                have g5 : ((rl : Int) == (m : Int)) = true := by simp; omega
                go_wp2_with fail
                go_meet
                case rel => exact ⟨by rw [hs.out], HB1, HRL1, HRM1⟩
              · have hs : Hid ((!decide (okR t d a)) = true) := by show _ = _; rw [HOK2.out, decide_eq_false b5]; rfl
                have g5 : ((rl : Int) == (m : Int)) = false := by simp; omega
                go_wp2_with fail
                go_meet
                case rel => exact ⟨by rw [hs.out]; show Value.bool (!((rl : Int) == (m : Int))) = _; rw [g5]; rfl, HB1, HRL1, HRM1⟩
  case rest =>
    obtain ⟨rfl, HBC, HRLC, HRMC⟩ := hcut
    clear e3 e4 e6 HRL HRM HD0
    by_cases hok : okR t d a
    · rw [decide_eq_true hok]
      have hok2 := hok
      unfold okR at hok2
      have hm1 : 1 ≤ m := by have := HM.out; omega
      have hm2 : m ≤ 12 := by have := HM.out; omega
      have hdd : 0 ≤ d ∧ d ≤ 1 := by omega
      have hm0 : 0 < t.length := by have := HM.out; omega
      obtain ⟨b, o, hA, hbB, -⟩ := HT.out.at (i := 0) (u := .int .i64 t[0]) (ivals_get t 0 hm0)
      subst hA
      have HQ : Hid (∀ W, Below n0 w W → ∀ j (hj : j < t.length), W.cell? ⟨b, o + j, none⟩ = some (.int .i64 t[j])) := fun W hW j hj => by
        obtain ⟨b', o', hA', -, hq⟩ := HTW.out.at (i := j) (u := .int .i64 t[j]) (ivals_get t j hj)
        injection hA' with hA'
        injection hA' with e1 e2
        subst e1 e2
        exact (hW.cell (p := ⟨b, o + j, none⟩) hbB).trans hq
      have HTH2 := Lib.hid (HTH.out hok)
      have HN1 : Hid (n1 < wc.heap.size) := HRMC.out.lt
      clear hok2 HTH HNO hok
      go_wp2_with fail
      go_loopw [6] (fun iv wr => ∃ i : Nat, i ≤ m ∧ iv = .int .i64 i ∧ Hid (∀ j (hj : j < t.length), j < i → ¬ lenL L.secs t[j] = 0) ∧ Hid (Below n0 w wr) ∧ Hid (Row wr n0 36 #[.slice A0 k0 c0, .slice A1 k1 c1, .slice A2 k2 c2, .slice A3 k3 c3, .slice A4 k4 c4, .int .i64 t0, .int .i64 t1, .int .i64 t2, .int .i64 t3, .int .i64 t4]) ∧ Hid (Row wr n1 42 #[.int .u8 k, .int .i64 tr, .int .i64 ti, .int .i64 d, .int .i64 a, .bool wh, .slice (some ⟨b, o, none⟩) m c])) (fun iv _ => m - (intOf iv).toNat)
      case atStart => exact ⟨0, Nat.zero_le _, rfl, fun j hj h => absurd h (by omega), HBC, HRLC, HRMC⟩
      case round =>
        obtain ⟨i, hi, rfl, HJ, HB, HRL, HRM⟩ := hrel
        by_cases hlt : i < m
        · have hit : i < t.length := by have := HM.out; omega
          have q0 := HQ.out _ (HB.out.drew) i hit
          have HL0 : Hid (lenL L.secs t[i] = 0 → R = false) := fun h => HLE.out i hit h
          have HL1 : Hid (¬ lenL L.secs t[i] = 0 → ∀ j (hj : j < t.length), j < i + 1 → ¬ lenL L.secs t[j] = 0) := fun h j hj hji => by
            rcases Nat.lt_or_ge j i with c' | c'
            · exact HJ.out j hj c'
            · obtain rfl : j = i := by omega
              exact h
          generalize t[i] = x at *
          have HBD : Hid (Below n0 w wr.drew) := HB.out.drew
          have HRLD : Hid (Row wr.drew n0 36 #[.slice A0 k0 c0, .slice A1 k1 c1, .slice A2 k2 c2, .slice A3 k3 c3, .slice A4 k4 c4, .int .i64 t0, .int .i64 t1, .int .i64 t2, .int .i64 t3, .int .i64 t4]) := HRL.out
          have HRMD : Hid (Row wr.drew n1 42 #[.int .u8 k, .int .i64 tr, .int .i64 ti, .int .i64 d, .int .i64 a, .bool wh, .slice (some ⟨b, o, none⟩) m c]) := HRM.out
          have HCALL := Lib.hid (refLen_any wr.drew D _ L x (HV.out.keep HBD.out hDn) (by have := HRMD.out.lt; omega) HL.out)
          clear HJ HB HRL HRM hit
          have p0 := HRLD.out.cell 0; have p1 := HRLD.out.cell 1; have p2 := HRLD.out.cell 2; have p3 := HRLD.out.cell 3; have p4 := HRLD.out.cell 4; have p5 := HRLD.out.cell 5; have p6 := HRLD.out.cell 6; have p7 := HRLD.out.cell 7; have p8 := HRLD.out.cell 8; have p9 := HRLD.out.cell 9
          simp only [List.getElem?_toArray, List.getElem?_cons_zero, List.getElem?_cons_succ] at p0 p1 p2 p3 p4 p5 p6 p7 p8 p9
          have e6 := HRMD.out.cell 6
          simp only [List.getElem?_toArray, List.getElem?_cons_zero, List.getElem?_cons_succ] at e6
          go_upto_region 7 with (fail)
          go_region_held3 (fun w' => w'.cell? ⟨n0, 0, none⟩ = some (.slice A0 k0 c0) ∧ w'.cell? ⟨n0, 1, none⟩ = some (.slice A1 k1 c1) ∧ w'.cell? ⟨n0, 2, none⟩ = some (.slice A2 k2 c2) ∧ w'.cell? ⟨n0, 3, none⟩ = some (.slice A3 k3 c3) ∧ w'.cell? ⟨n0, 4, none⟩ = some (.slice A4 k4 c4) ∧ w'.cell? ⟨n0, 5, none⟩ = some (.int .i64 t0) ∧ w'.cell? ⟨n0, 6, none⟩ = some (.int .i64 t1) ∧ w'.cell? ⟨n0, 7, none⟩ = some (.int .i64 t2) ∧ w'.cell? ⟨n0, 8, none⟩ = some (.int .i64 t3) ∧ w'.cell? ⟨n0, 9, none⟩ = some (.int .i64 t4) ∧ w'.cell? ⟨n1, 6, none⟩ = some (.slice (some ⟨b, o, none⟩) m c) ∧ w'.cell? ⟨b, o + i, none⟩ = some (.int .i64 x)) (first | assumption | go_keep) (first | (go_at_call 35; (with_reducible refine HCALL.out.mono ?_); rintro e w5 ⟨rfl, hb5⟩; have HB5 : Hid (Below n0 w w5) := HBD.out.trans (hb5.mono (by have := HRMD.out.lt; omega)); have HRL5 := Lib.hid (Below.row hb5 HRLD.out HRLD.out.lt); have HRM5 := Lib.hid (Below.row hb5 HRMD.out HRMD.out.lt); have HS5 : w5.cell? ⟨n0, 0, none⟩ = some (.slice A0 k0 c0) ∧ w5.cell? ⟨n0, 1, none⟩ = some (.slice A1 k1 c1) ∧ w5.cell? ⟨n0, 2, none⟩ = some (.slice A2 k2 c2) ∧ w5.cell? ⟨n0, 3, none⟩ = some (.slice A3 k3 c3) ∧ w5.cell? ⟨n0, 4, none⟩ = some (.slice A4 k4 c4) ∧ w5.cell? ⟨n0, 5, none⟩ = some (.int .i64 t0) ∧ w5.cell? ⟨n0, 6, none⟩ = some (.int .i64 t1) ∧ w5.cell? ⟨n0, 7, none⟩ = some (.int .i64 t2) ∧ w5.cell? ⟨n0, 8, none⟩ = some (.int .i64 t3) ∧ w5.cell? ⟨n0, 9, none⟩ = some (.int .i64 t4) ∧ w5.cell? ⟨n1, 6, none⟩ = some (.slice (some ⟨b, o, none⟩) m c) ∧ w5.cell? ⟨b, o + i, none⟩ = some (.int .i64 x) := ⟨HRL5.out.cell 0, HRL5.out.cell 1, HRL5.out.cell 2, HRL5.out.cell 3, HRL5.out.cell 4, HRL5.out.cell 5, HRL5.out.cell 6, HRL5.out.cell 7, HRL5.out.cell 8, HRL5.out.cell 9, HRM5.out.cell 6, (hb5.cell (p := ⟨b, o + i, none⟩) (by have := HRMD.out.lt; show b < _; omega)).trans q0⟩; clear hb5))
          have g4 : True := trivial
          clear HCALL HS5 q0 e6 p0 p1 p2 p3 p4 p5 p6 p7 p8 p9
          generalize lenL L.secs x = ln at *
          by_cases hz : ln = 0
          · have HE := Lib.hid (HL0.out hz)
            have g : (ln == 0) = true := by simpa using hz
            clear hz HL0 HL1
            go_wp2_with fail
            go_ret
            exact ⟨ret_bool HE.out.symm, by rw [HN.out.1]; exact HB5.out⟩
          · have HJ2 := Lib.hid (HL1.out hz)
            have g : (ln == 0) = false := by simpa using hz
            clear hz HL0 HL1
            go_wp2_with fail
            go_roundw
            case rel => exact ⟨i + 1, by omega, by go_num, HJ2, HB5, HRL5, HRM5⟩
            case measure => simp [intOf]; omega
        · have HALL : Hid (∀ j (hj : j < t.length), ¬ lenL L.secs t[j] = 0) := fun j hj => HJ.out j hj (by have := HM.out; omega)
          have hx : t.getD 0 0 = t[0] := by simp [List.getD, hm0]
          rw [hx] at HFA HTH2
          have HTH3 := Lib.hid (HTH2.out HALL.out)
          have q0 := HQ.out _ (HB.out.drew) 0 hm0
          rw [Nat.add_zero] at q0
          obtain ⟨x, hx2⟩ : ∃ x, t[0] = x := ⟨_, rfl⟩
          rw [hx2] at q0 HFA HTH3
          have HBD : Hid (Below n0 w wr.drew) := HB.out.drew
          have HRLD : Hid (Row wr.drew n0 36 #[.slice A0 k0 c0, .slice A1 k1 c1, .slice A2 k2 c2, .slice A3 k3 c3, .slice A4 k4 c4, .int .i64 t0, .int .i64 t1, .int .i64 t2, .int .i64 t3, .int .i64 t4]) := HRL.out
          have HRMD : Hid (Row wr.drew n1 42 #[.int .u8 k, .int .i64 tr, .int .i64 ti, .int .i64 d, .int .i64 a, .bool wh, .slice (some ⟨b, o, none⟩) m c]) := HRM.out
          have HCALL := Lib.hid (refLen_any wr.drew D _ L x (HV.out.keep HBD.out hDn) (by have := HRMD.out.lt; omega) HL.out)
          have HBX : Hid (b < n0) := hbB
          clear HJ HB HRL HRM hx hx2 HTH2 HALL
          have p0 := HRLD.out.cell 0; have p1 := HRLD.out.cell 1; have p2 := HRLD.out.cell 2; have p3 := HRLD.out.cell 3; have p4 := HRLD.out.cell 4; have p5 := HRLD.out.cell 5; have p6 := HRLD.out.cell 6; have p7 := HRLD.out.cell 7; have p8 := HRLD.out.cell 8; have p9 := HRLD.out.cell 9
          simp only [List.getElem?_toArray, List.getElem?_cons_zero, List.getElem?_cons_succ] at p0 p1 p2 p3 p4 p5 p6 p7 p8 p9
          have gm1 : (0 : Int) < (m : Int) := by omega
          have gm2 : 0 < m := by omega
          have e6 := HRMD.out.cell 6; have e4 := HRMD.out.cell 4
          simp only [List.getElem?_toArray, List.getElem?_cons_zero, List.getElem?_cons_succ] at e6 e4
          go_upto_region 9 with (fail)
          go_region_held3 (fun w' => w'.cell? ⟨n0, 0, none⟩ = some (.slice A0 k0 c0) ∧ w'.cell? ⟨n0, 1, none⟩ = some (.slice A1 k1 c1) ∧ w'.cell? ⟨n0, 2, none⟩ = some (.slice A2 k2 c2) ∧ w'.cell? ⟨n0, 3, none⟩ = some (.slice A3 k3 c3) ∧ w'.cell? ⟨n0, 4, none⟩ = some (.slice A4 k4 c4) ∧ w'.cell? ⟨n0, 5, none⟩ = some (.int .i64 t0) ∧ w'.cell? ⟨n0, 6, none⟩ = some (.int .i64 t1) ∧ w'.cell? ⟨n0, 7, none⟩ = some (.int .i64 t2) ∧ w'.cell? ⟨n0, 8, none⟩ = some (.int .i64 t3) ∧ w'.cell? ⟨n0, 9, none⟩ = some (.int .i64 t4) ∧ w'.cell? ⟨n1, 4, none⟩ = some (.int .i64 a) ∧ w'.cell? ⟨n1, 6, none⟩ = some (.slice (some ⟨b, o, none⟩) m c) ∧ w'.cell? ⟨b, o, none⟩ = some (.int .i64 x)) (first | assumption | go_keep) (first | (go_at_call 35; (with_reducible refine HCALL.out.mono ?_); rintro e w5 ⟨rfl, hb5⟩; have HB5 : Hid (Below n0 w w5) := HBD.out.trans (hb5.mono (by have := HRMD.out.lt; omega)); have HRL5 := Lib.hid (Below.row hb5 HRLD.out HRLD.out.lt); have HRM5 := Lib.hid (Below.row hb5 HRMD.out HRMD.out.lt); have hq5 : w5.cell? ⟨b, o, none⟩ = some (.int .i64 x) := (hb5.cell (p := ⟨b, o, none⟩) (by have := HRMD.out.lt; have := HBX.out; show b < _; omega)).trans q0; have HS5 : w5.cell? ⟨n0, 0, none⟩ = some (.slice A0 k0 c0) ∧ w5.cell? ⟨n0, 1, none⟩ = some (.slice A1 k1 c1) ∧ w5.cell? ⟨n0, 2, none⟩ = some (.slice A2 k2 c2) ∧ w5.cell? ⟨n0, 3, none⟩ = some (.slice A3 k3 c3) ∧ w5.cell? ⟨n0, 4, none⟩ = some (.slice A4 k4 c4) ∧ w5.cell? ⟨n0, 5, none⟩ = some (.int .i64 t0) ∧ w5.cell? ⟨n0, 6, none⟩ = some (.int .i64 t1) ∧ w5.cell? ⟨n0, 7, none⟩ = some (.int .i64 t2) ∧ w5.cell? ⟨n0, 8, none⟩ = some (.int .i64 t3) ∧ w5.cell? ⟨n0, 9, none⟩ = some (.int .i64 t4) ∧ w5.cell? ⟨n1, 4, none⟩ = some (.int .i64 a) ∧ w5.cell? ⟨n1, 6, none⟩ = some (.slice (some ⟨b, o, none⟩) m c) ∧ w5.cell? ⟨b, o, none⟩ = some (.int .i64 x) := ⟨HRL5.out.cell 0, HRL5.out.cell 1, HRL5.out.cell 2, HRL5.out.cell 3, HRL5.out.cell 4, HRL5.out.cell 5, HRL5.out.cell 6, HRL5.out.cell 7, HRL5.out.cell 8, HRL5.out.cell 9, HRM5.out.cell 4, HRM5.out.cell 6, hq5⟩; clear hb5))
          clear HCALL HS5 q0 e6 e4 p0 p1 p2 p3 p4 p5 p6 p7 p8 p9 HBD HRLD HRMD
          generalize lenL L.secs x = ln at *
          by_cases hz : ln < a
          · have HE := Lib.hid (HFA.out (by omega))
            clear HTH3 HFA
            go_wp2_with fail
            go_ret
            exact ⟨ret_bool HE.out.symm, by rw [HN.out.1]; exact HB5.out⟩
          · have HR := Lib.hid (HTH3.out (by omega))
            clear HTH3 HFA
            have HBD : Hid (Below n0 w w5.drew) := HB5.out.drew
            have HRLD : Hid (Row w5.drew n0 36 #[.slice A0 k0 c0, .slice A1 k1 c1, .slice A2 k2 c2, .slice A3 k3 c3, .slice A4 k4 c4, .int .i64 t0, .int .i64 t1, .int .i64 t2, .int .i64 t3, .int .i64 t4]) := HRL5.out
            have HRMD : Hid (Row w5.drew n1 42 #[.int .u8 k, .int .i64 tr, .int .i64 ti, .int .i64 d, .int .i64 a, .bool wh, .slice (some ⟨b, o, none⟩) m c]) := HRM5.out
            have q1 : w5.drew.cell? ⟨b, o, none⟩ = some (.int .i64 x) := hq5
            clear HRL5 HRM5 hq5
            go_upto_region 11 with (fail)
            go_cut [7] (fun v wx => ∃ nx, v = .pointer (some ⟨nx, 0, none⟩) ∧ Hid (n1 < nx) ∧ Hid (Row wx nx 85 #[.int .i64 x, .int .i64 (1 - d)]) ∧ Hid (Below n0 w wx) ∧ Hid (Row wx n0 36 #[.slice A0 k0 c0, .slice A1 k1 c1, .slice A2 k2 c2, .slice A3 k3 c3, .slice A4 k4 c4, .int .i64 t0, .int .i64 t1, .int .i64 t2, .int .i64 t3, .int .i64 t4]) ∧ Hid (Row wx n1 42 #[.int .u8 k, .int .i64 tr, .int .i64 ti, .int .i64 d, .int .i64 a, .bool wh, .slice (some ⟨b, o, none⟩) m c]))
            case first =>
              rename_i J K' hJ hK
              have e6 := HRMD.out.cell 6; have e3 := HRMD.out.cell 3
              simp only [List.getElem?_toArray, List.getElem?_cons_zero, List.getElem?_cons_succ] at e6 e3
              have HBA : Hid (Below n0 w (w5.alloc (.cells #[.int .i64 0, .int .i64 0] 85)).drew) := (HB5.out.alloc (by have := HRMD.out.lt; have h2 : n1 < w5.heap.size := this; omega) _).drew
              have HRLA : Hid (Row (w5.alloc (.cells #[.int .i64 0, .int .i64 0] 85)).drew n0 36 #[.slice A0 k0 c0, .slice A1 k1 c1, .slice A2 k2 c2, .slice A3 k3 c3, .slice A4 k4 c4, .int .i64 t0, .int .i64 t1, .int .i64 t2, .int .i64 t3, .int .i64 t4]) := (show Row w5 n0 36 _ from HRLD.out).alloc _
              have HRMA : Hid (Row (w5.alloc (.cells #[.int .i64 0, .int .i64 0] 85)).drew n1 42 #[.int .u8 k, .int .i64 tr, .int .i64 ti, .int .i64 d, .int .i64 a, .bool wh, .slice (some ⟨b, o, none⟩) m c]) := (show Row w5 n1 42 _ from HRMD.out).alloc _
              have HRNA : Hid (Row (w5.alloc (.cells #[.int .i64 0, .int .i64 0] 85)).drew w5.heap.size 85 #[.int .i64 0, .int .i64 0]) := Row.new w5 85 #[.int .i64 0, .int .i64 0]
              have HN15 : Hid (n1 < w5.heap.size) := HRMD.out.lt
              have qA : (w5.alloc (.cells #[.int .i64 0, .int .i64 0] 85)).drew.cell? ⟨b, o, none⟩ = some (.int .i64 x) := (HBA.out.cell (p := ⟨b, o, none⟩) HBX.out).trans ((HBD.out.cell (p := ⟨b, o, none⟩) HBX.out).symm.trans q1)
              have sA : (w5.alloc (.cells #[.int .i64 0, .int .i64 0] 85)).drew.cell? ⟨n1, 3, none⟩ = some (.int .i64 d) ∧ (w5.alloc (.cells #[.int .i64 0, .int .i64 0] 85)).drew.cell? ⟨n1, 6, none⟩ = some (.slice (some ⟨b, o, none⟩) m c) ∧ (w5.alloc (.cells #[.int .i64 0, .int .i64 0] 85)).drew.cell? ⟨b, o, none⟩ = some (.int .i64 x) := ⟨HRMA.out.cell 3, HRMA.out.cell 6, qA⟩
              have z0 := HRNA.out.cell 0; have z1 := HRNA.out.cell 1; have z2 := HRNA.out.frozen 0; have z3 := HRNA.out.frozen 1
              simp only [List.getElem?_toArray, List.getElem?_cons_zero, List.getElem?_cons_succ] at z0 z1
              have HBB : Hid (Below n0 w (w5.alloc (.cells #[.int .i64 x, .int .i64 (1 - d)] 85)).drew) := (HB5.out.alloc (by have := HRMD.out.lt; have h2 : n1 < w5.heap.size := this; omega) _).drew
              have HRLB : Hid (Row (w5.alloc (.cells #[.int .i64 x, .int .i64 (1 - d)] 85)).drew n0 36 #[.slice A0 k0 c0, .slice A1 k1 c1, .slice A2 k2 c2, .slice A3 k3 c3, .slice A4 k4 c4, .int .i64 t0, .int .i64 t1, .int .i64 t2, .int .i64 t3, .int .i64 t4]) := (show Row w5 n0 36 _ from HRLD.out).alloc _
              have HRMB : Hid (Row (w5.alloc (.cells #[.int .i64 x, .int .i64 (1 - d)] 85)).drew n1 42 #[.int .u8 k, .int .i64 tr, .int .i64 ti, .int .i64 d, .int .i64 a, .bool wh, .slice (some ⟨b, o, none⟩) m c]) := (show Row w5 n1 42 _ from HRMD.out).alloc _
              have HRNB : Hid (Row (w5.alloc (.cells #[.int .i64 x, .int .i64 (1 - d)] 85)).drew w5.heap.size 85 #[.int .i64 x, .int .i64 (1 - d)]) := Row.new w5 85 #[.int .i64 x, .int .i64 (1 - d)]
              have qB : (w5.alloc (.cells #[.int .i64 x, .int .i64 (1 - d)] 85)).drew.cell? ⟨b, o, none⟩ = some (.int .i64 x) := (HBB.out.cell (p := ⟨b, o, none⟩) HBX.out).trans ((HBD.out.cell (p := ⟨b, o, none⟩) HBX.out).symm.trans q1)
              have sB : (w5.alloc (.cells #[.int .i64 x, .int .i64 (1 - d)] 85)).drew.cell? ⟨n1, 3, none⟩ = some (.int .i64 d) ∧ (w5.alloc (.cells #[.int .i64 x, .int .i64 (1 - d)] 85)).drew.cell? ⟨n1, 6, none⟩ = some (.slice (some ⟨b, o, none⟩) m c) ∧ (w5.alloc (.cells #[.int .i64 x, .int .i64 (1 - d)] 85)).drew.cell? ⟨b, o, none⟩ = some (.int .i64 x) := ⟨HRMB.out.cell 3, HRMB.out.cell 6, qB⟩
              have hwr : IntKind.i64.wrap (1 - d) = 1 - d := IntWalk.i64_in _ (by omega)
              go_region_held3 (fun w' => w'.cell? ⟨n1, 3, none⟩ = some (.int .i64 d) ∧ w'.cell? ⟨n1, 6, none⟩ = some (.slice (some ⟨b, o, none⟩) m c) ∧ w'.cell? ⟨b, o, none⟩ = some (.int .i64 x)) (first | assumption | exact sA | exact sB | go_keep) (fail)
              refine hK _ _ (Met.intro (hJ _ _ ?_))
              (repeat apply Exists.intro)
              refine ⟨?rel, rfl⟩
              case rel => exact ⟨_, rfl, HN15, HRNB, HBB, HRLB, HRMB⟩
            case rest =>
              obtain ⟨nx, rfl, HNX, HRN, HBW, HRLW, HRMW⟩ := hcut
              clear q1 HBD HRLD HRMD hz HB5
              have HDR : Hid (∀ i (h : i < t.length), t.drop i = t[i] :: t.drop (i + 1)) := fun i h => List.drop_eq_getElem_cons h
              have HEND : Hid (∀ e, thruL L e (t.drop m) = some e) := fun e => by rw [List.drop_eq_nil_of_le (by have := HM.out; omega), thruL]
              clear hdd hm0
              go_wp2_with fail
              go_loopw [8] (fun iv wr => ∃ (i : Nat) (e1 e2 : Int), 1 ≤ i ∧ i ≤ m ∧ iv = .int .i64 i ∧ Hid (R = (thruL L (e1, e2) (t.drop i)).isSome) ∧ Hid (Row wr nx 85 #[.int .i64 e1, .int .i64 e2]) ∧ Hid (Below n0 w wr) ∧ Hid (Row wr n0 36 #[.slice A0 k0 c0, .slice A1 k1 c1, .slice A2 k2 c2, .slice A3 k3 c3, .slice A4 k4 c4, .int .i64 t0, .int .i64 t1, .int .i64 t2, .int .i64 t3, .int .i64 t4]) ∧ Hid (Row wr n1 42 #[.int .u8 k, .int .i64 tr, .int .i64 ti, .int .i64 d, .int .i64 a, .bool wh, .slice (some ⟨b, o, none⟩) m c])) (fun iv _ => m - (intOf iv).toNat)
              case atStart => exact ⟨1, x, 1 - d, Nat.le_refl _, hm1, rfl, HR, HRN, HBW, HRLW, HRMW⟩
              case round =>
                clear HR HRN HBW HRLW HRMW
                obtain ⟨i, e1, e2, hi1, him, rfl, HR, HRN, HBW, HRLW, HRMW⟩ := hrel
                by_cases hlt : i < m
                · have hit : i < t.length := by have := HM.out; omega
                  have HR0 : Hid (R = (thruL L (e1, e2) (t[i] :: t.drop (i + 1))).isSome) := by show _ = _; rw [← HDR.out i hit]; exact HR.out
                  have HQI : Hid (∀ W, Below n0 w W → W.cell? ⟨b, o + i, none⟩ = some (.int .i64 t[i])) := fun W hW => HQ.out W hW i hit
                  generalize t[i] = y at *
                  clear HR hit
                  have HDW : Hid (D ≤ wr.heap.size) := by have := HRMW.out.lt; show D ≤ _; omega
                  have p0 := HRLW.out.cell 0; have p1 := HRLW.out.cell 1; have p2 := HRLW.out.cell 2; have p3 := HRLW.out.cell 3; have p4 := HRLW.out.cell 4; have p5 := HRLW.out.cell 5; have p6 := HRLW.out.cell 6; have p7 := HRLW.out.cell 7; have p8 := HRLW.out.cell 8; have p9 := HRLW.out.cell 9
                  simp only [List.getElem?_toArray, List.getElem?_cons_zero, List.getElem?_cons_succ] at p0 p1 p2 p3 p4 p5 p6 p7 p8 p9
                  have f0 := HRN.out.cell 0; have f1 := HRN.out.cell 1
                  simp only [List.getElem?_toArray, List.getElem?_cons_zero, List.getElem?_cons_succ] at f0 f1
                  go_wp2_with fail
                  refine (refAround_any wr D _ L e1 e2 (HV.out.keep HBW.out hDn) HDW.out HL.out).mono ?_; rintro e w2 ⟨v2, rfl, hp2, hb2⟩
                  obtain ⟨A2', c2', hv2, -⟩ := id hp2
                  subst hv2
                  have HB2 : Hid (Below n0 w w2) := HBW.out.trans (hb2.mono (by have := HRMW.out.lt; omega))
                  have HRN2 := Lib.hid (Below.row hb2 HRN.out HRN.out.lt)
                  have HRL2 := Lib.hid (Below.row hb2 HRLW.out HRLW.out.lt)
                  have HRM2 := Lib.hid (Below.row hb2 HRMW.out HRMW.out.lt)
                  have HP2 := Lib.hid hp2
                  have hal := aroundL_le L (e1, e2)
                  have HSD := Lib.hid (aroundL_snd L (e1, e2))
                  have HW0 : Hid (inL (aroundL L (e1, e2)) y = none → R = false) := fun h0 => by rw [HR0.out, thruL_none h0]; rfl
                  have HW1 : Hid (∀ i', inL (aroundL L (e1, e2)) y = some i' → R = (thruL L (y, 1 - ((aroundL L (e1, e2)).getD i' (0, 0)).2) (t.drop (i + 1))).isSome) := fun i' h0 => by rw [HR0.out, thruL_some h0]
                  clear hb2 hp2 f0 f1 p0 p1 p2 p3 p4 p5 p6 p7 p8 p9 HR0 HRN HBW HRLW HRMW HDW
                  generalize aroundL L (e1, e2) = es at *
                  go_wp2_with fail
                  go_loopw [10] (fun kv wr' => ∃ k' q : Nat, k' ≤ es.length ∧ kv = .int .i64 k' ∧ Hid (∀ j (hj : j < es.length), j < k' → es[j].1 ≠ y) ∧ wr' = w2.drewN q) (fun kv _ => es.length - (intOf kv).toNat)
                  case atStart => exact ⟨0, 0, Nat.zero_le _, rfl, fun j hj h => absurd h (by omega), rfl⟩
                  case round =>
                    obtain ⟨k', q, hk, rfl, HJ, rfl⟩ := hrel
                    by_cases hkl : k' < es.length
                    · obtain ⟨b2, o2, hA2, hb2lt, g0, g1⟩ := HP2.out.at k' hkl
                      subst hA2
                      have HK1 : Hid (es[k'].1 = y → R = (thruL L (y, 1 - es[k'].2) (t.drop (i + 1))).isSome) := fun h => by
                        have h2 := HW1.out k' (inL_at hkl h (fun j hj hlt => HJ.out j hj hlt))
                        have hgd : es.getD k' (0, 0) = es[k'] := by simp [List.getD, hkl]
                        rw [hgd] at h2; exact h2
                      have HK2 : Hid (es[k'].1 ≠ y → ∀ j (hj : j < es.length), j < k' + 1 → es[j].1 ≠ y) := fun h j hj hji => by
                        rcases Nat.lt_or_ge j k' with c' | c'
                        · exact HJ.out j hj c'
                        · obtain rfl : j = k' := by omega
                          exact h
                      have hsd := HSD.out es[k'] (List.getElem_mem _)
                      obtain ⟨z, hz⟩ : ∃ z, es[k'] = z := ⟨_, rfl⟩
                      rw [hz] at g0 g1 HK1 HK2 hsd
                      obtain ⟨z0, z1⟩ := z
                      simp only at g0 g1 HK1 HK2 hsd
                      have q0 := HQI.out _ HB2.out
                      have e6 := HRM2.out.cell 6
                      simp only [List.getElem?_toArray, List.getElem?_cons_zero, List.getElem?_cons_succ] at e6
                      have gk1 : (k' : Int) < (es.length : Int) := by omega
                      have gk2 : (0 : Int) ≤ (k' : Int) := by omega
                      have gi1 : (i : Int) < (m : Int) := by omega
                      have gi2 : (0 : Int) ≤ (i : Int) := by omega
                      clear hz HJ
                      by_cases hzy : z0 = y
                      · have HR2 := Lib.hid (HK1.out hzy)
                        have gz : (z0 != y) = false := by simpa using hzy
                        have gke : ((k' : Int) == (es.length : Int)) = false := by simp; omega
                        clear HK1 HK2 hzy HW0 HW1
                        go_wp2
                        go_quiet (fail)
                        go_wp2_with fail
                        have HBQ0 : Hid (Below w2.heap.size w2 (w2.drewN (q + nq))) := Below.drewN (Below.refl _ _) _
                        have HBQ : Hid (Below n0 w (w2.drewN (q + nq))) := Below.drewN HB2.out _
                        have HRNQ := Lib.hid (Below.row HBQ0.out HRN2.out HRN2.out.lt)
                        have HRLQ := Lib.hid (Below.row HBQ0.out HRL2.out HRL2.out.lt)
                        have HRMQ := Lib.hid (Below.row HBQ0.out HRM2.out HRM2.out.lt)
                        have j0 := HQI.out _ HBQ.out
                        have j1 := (HBQ0.out.cell (p := ⟨b2, o2 + k' * 2 + 1, none⟩) hb2lt).trans g1
                        clear HBQ0 g0 g1 q0 e6 HRN2 HRL2 HRM2 HB2 HP2
                        generalize w2.drewN (q + nq) = W at *
                        have e6 := HRMQ.out.cell 6
                        simp only [List.getElem?_toArray, List.getElem?_cons_zero, List.getElem?_cons_succ] at e6
                        have hwr : IntKind.i64.wrap (1 - z1) = 1 - z1 := IntWalk.i64_in _ (by omega)
                        go_still_tail 12, (by kernel_rfl)
                        change wpList _ _ _ _ _ W.drew
                        have HB8 : Hid (Below n0 w W.drew) := HBQ.out.drew
                        have HE8 : Hid (Row W.drew nx 85 #[.int .i64 e1, .int .i64 e2]) := HRNQ.out
                        have HL8 : Hid (Row W.drew n0 36 #[.slice A0 k0 c0, .slice A1 k1 c1, .slice A2 k2 c2, .slice A3 k3 c3, .slice A4 k4 c4, .int .i64 t0, .int .i64 t1, .int .i64 t2, .int .i64 t3, .int .i64 t4]) := HRLQ.out
                        have HM8 : Hid (Row W.drew n1 42 #[.int .u8 k, .int .i64 tr, .int .i64 ti, .int .i64 d, .int .i64 a, .bool wh, .slice (some ⟨b, o, none⟩) m c]) := HRMQ.out
                        clear j0 j1 e6 HBQ HRNQ HRLQ HRMQ
                        generalize W.drew = wd at *
                        have f0 := HE8.out.cell 0; have f1 := HE8.out.cell 1; have f2 := HE8.out.frozen 0; have f3 := HE8.out.frozen 1
                        simp only [List.getElem?_toArray, List.getElem?_cons_zero, List.getElem?_cons_succ] at f0 f1
                        have HNW : Hid (Row ((wd.setCell ⟨nx, 0, none⟩ (.int .i64 y)).setCell ⟨nx, 1, none⟩ (.int .i64 (1 - z1))) nx 85 #[.int .i64 y, .int .i64 (1 - z1)]) := (HE8.out.set 0 (.int .i64 y)).set 1 (.int .i64 (1 - z1))
                        have HNB : Hid (Below n0 w ((wd.setCell ⟨nx, 0, none⟩ (.int .i64 y)).setCell ⟨nx, 1, none⟩ (.int .i64 (1 - z1)))) := (HB8.out.setCell (p := ⟨nx, 0, none⟩) (by have := HNX.out; simp; omega) _).setCell (p := ⟨nx, 1, none⟩) (by have := HNX.out; simp; omega) _
                        have HNL : Hid (Row ((wd.setCell ⟨nx, 0, none⟩ (.int .i64 y)).setCell ⟨nx, 1, none⟩ (.int .i64 (1 - z1))) n0 36 #[.slice A0 k0 c0, .slice A1 k1 c1, .slice A2 k2 c2, .slice A3 k3 c3, .slice A4 k4 c4, .int .i64 t0, .int .i64 t1, .int .i64 t2, .int .i64 t3, .int .i64 t4]) := (HL8.out.far (p := ⟨nx, 0, none⟩) (by have := HNX.out; simp; omega) _).far (p := ⟨nx, 1, none⟩) (by have := HNX.out; simp; omega) _
                        have HNM : Hid (Row ((wd.setCell ⟨nx, 0, none⟩ (.int .i64 y)).setCell ⟨nx, 1, none⟩ (.int .i64 (1 - z1))) n1 42 #[.int .u8 k, .int .i64 tr, .int .i64 ti, .int .i64 d, .int .i64 a, .bool wh, .slice (some ⟨b, o, none⟩) m c]) := (HM8.out.far (p := ⟨nx, 0, none⟩) (by have := HNX.out; simp; omega) _).far (p := ⟨nx, 1, none⟩) (by have := HNX.out; simp; omega) _
                        clear HB8 HE8 HL8 HM8
                        go_wp2_with fail
                        go_roundw
                        case rel => exact ⟨i + 1, y, 1 - z1, by omega, by omega, by go_num, HR2, HNW, HNB, HNL, HNM⟩
                        case measure => simp [intOf]; omega
                      · have HJ2 := Lib.hid (HK2.out hzy)
                        have gz : (z0 != y) = true := by simpa using hzy
                        clear HK1 HK2 hzy
                        go_wp2
                        go_quiet (fail)
                        go_wp2
                        go_roundw
                        case rel => exact ⟨k' + 1, _, by omega, by go_num, HJ2, rfl⟩
                        case measure => simp [intOf]; omega
                    · have HE : Hid (R = false) := HW0.out (inL_none fun j hj => HJ.out j hj (by omega))
                      have hke : k' = es.length := by omega
                      subst hke
                      have gk1 : decide ((es.length : Int) < (es.length : Int)) = false := by simp
                      have gke : ((es.length : Int) == (es.length : Int)) = true := by simp
                      have HBZ : Hid (∀ p, Below n0 w (w2.drewN p)) := fun p => Below.drewN HB2.out p
                      clear HW0 HW1 HJ
                      go_wp2
                      go_quiet (fail)
                      go_wp2_with fail
                      go_ret
                      exact ⟨ret_bool HE.out.symm, by rw [HN.out.1]; exact HBZ.out _⟩
                · have HE : Hid (R = true) := by
                    show _ = _
                    obtain rfl : i = m := by omega
                    rw [HR.out, HEND.out]; rfl
                  go_wp2_with fail
                  go_ret
                  exact ⟨ret_bool HE.out.symm, by rw [HN.out.1]; exact HBW.out⟩
    · rw [decide_eq_false hok]
      have HE := Lib.hid (HNO.out hok)
      go_wp2_with fail
      go_ret
      exact ⟨ret_bool HE.out.symm, by rw [HN.out.1]; exact HBC.out⟩

end Go.Proofs.Ytifcgkpannlnnaa
