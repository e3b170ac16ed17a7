/- Contracts: mayReport; Note where nothing is turned. -/
import Derived.Test.YtifcgkpannlnnaaQ5
import Derived.Test.YtifcgkpannlnnaaF5
namespace Go.Proofs.Ytifcgkpannlnnaa
open Go.RowKit Fl Go.Maps
set_option maxRecDepth 100000

/-- May a report of that time come? -/
def mayP (t : Tr) (now time : Int) : Bool := if t.trail.length = 0 then decide (time = now) else decide (time ≤ now) && decide (t.heard < time)

set_option maxHeartbeats 4000000 in
theorem may_any (w : World) (t : Tr) (A : Option Addr) (c : Nat) (now time : Int) :
    Calls Try.prog 41 #[.agg (tcells t.id t.heard t.sure t.dir t.ahead (.slice A t.trail.length c)), .int .i64 now, .int .i64 time] w (RetL (mayP t now time) w) := by
  have HB := Lib.hid ((Below.refl w.heap.size w).alloc (Nat.le_refl _) (.cells (tcells t.id t.heard t.sure t.dir t.ahead (.slice A t.trail.length c)) 58))
  by_cases h0 : t.trail.length = 0
  · have HE : Hid (mayP t now time = decide (time = now)) := by show _ = _; unfold mayP; rw [if_pos h0]
    have g0 : ((t.trail.length : Int) == 0) = true := by rw [beq_iff_eq]; omega
    have HD : Hid ((time == now) = decide (time = now)) := by show _ = _; rw [Bool.eq_iff_iff]; simp
    generalize mayP t now time = R at *
    generalize t.trail.length = k at *
    clear h0
    go_enter Try.func41, Try.ntmps41
    go_wp2_with fail
    go_ret
    exact ⟨ret_bool (by rw [HE.out]; exact HD.out), HB.out⟩
  · have HE : Hid (mayP t now time = (decide (time ≤ now) && decide (t.heard < time))) := by show _ = _; unfold mayP; rw [if_neg h0]
    have g0 : ((t.trail.length : Int) == 0) = false := by rw [beq_eq_false_iff_ne]; omega
    generalize mayP t now time = R at *
    generalize t.trail.length = k at *
    clear h0
    by_cases h1 : time ≤ now
    · have HE2 : Hid (R = decide (t.heard < time)) := by show _ = _; rw [HE.out, decide_eq_true h1]; rfl
      go_enter Try.func41, Try.ntmps41
      go_wp2_with fail
      go_ret
      exact ⟨ret_bool HE2.out.symm, HB.out⟩
    · have HE2 : Hid (R = false) := by show _ = _; rw [HE.out, decide_eq_false h1]; rfl
      go_enter Try.func41, Try.ntmps41
      go_wp2_with fail
      go_ret
      exact ⟨ret_bool HE2.out.symm, HB.out⟩

set_option maxHeartbeats 4000000 in
theorem note_none (w : World) (rb mb n : Nat) (m : Mp) (h : Reg w rb mb n m) (vg : Value) (now kd id ti d a : Int) (wh : Bool) (vT vW : Value) (hid : (Lit.int .i64 id).wf = true) (ht : m id = none) :
    Calls Try.prog 24 #[.pointer (some ⟨rb, 0, none⟩), vg, .int .i64 now, .agg (mcells kd id ti d a wh vT), vW] w (RetReg (.int .i64 7) rb mb n m w) := by
  have hb0 := (Below.refl w.heap.size w).alloc (Nat.le_refl _) (.cells (mcells kd id ti d a wh vT) 42)
  have HB := Lib.hid hb0
  have HR := Lib.hid (Row.new w 42 (mcells kd id ti d a wh vT))
  have HG := Lib.hid (h.up hb0)
  have HGW := Lib.hid h
  clear h hb0
  go_enter Try.func24, Try.ntmps24
  go_upto_region 1 with (fail)
  obtain ⟨n0, hn0⟩ : ∃ k, w.heap.size = k := ⟨_, rfl⟩
  rw [hn0] at HR HB ⊢
  have HN := Lib.hid hn0
  clear hn0
  generalize w.alloc (.cells #[.int .u8 kd, .int .i64 id, .int .i64 ti, .int .i64 d, .int .i64 a, .bool wh, vT] 42) = w0 at *
  have e1 := HR.out.cell 1
  simp only [List.getElem?_toArray, List.getElem?_cons_zero, List.getElem?_cons_succ] at e1
  go_wp2_with fail
  refine (find_none w0 rb mb n m HG.out id hid ht).mono ?_; rintro e w1 ⟨rfl, hb⟩
  have hb2 := HB.out.trans ((hb.alloc hb.size (.cells (tcells 0 0 0 0 0 (.slice none 0 0)) 58)).mono (by have := HR.out.lt; omega))
  rw [← HN.out] at hb2
  have HG2 := Lib.hid (HGW.out.up hb2)
  have HK := Lib.hid (KeptL.of_below (S := [mb]) hb2)
  clear hb hb2
  go_wp2_with fail
  go_ret
  exact ⟨rfl, HG2.out, HK.out⟩

set_option maxHeartbeats 8000000 in
theorem note_state (w : World) (rb mb n : Nat) (m : Mp) (h : Reg w rb mb n m) (D : Nat) (vg : Value) (L : Lay) (now id ti d a : Int) (wh : Bool) (A : Option Addr) (c : Nat) (T : List Int) (vW : Value) (t : Tr) (hid : (Lit.int .i64 id).wf = true) (ht : m id = some t)
    (hg : IsGr w D vg L) (hD : D ≤ w.heap.size) (hL : Fits L) (hT : Rd w w.heap.size (.slice A T.length c) (ivals T)) (hTl : T.length ≤ 1000) (hf : fitsP L T d a = true) (hm : mayP t now ti = false) :
    Calls Try.prog 24 #[.pointer (some ⟨rb, 0, none⟩), vg, .int .i64 now, .agg (mcells 3 id ti d a wh (.slice A T.length c)), vW] w (RetReg (.int .i64 8) rb mb n m w) := by
  have hb0 := (Below.refl w.heap.size w).alloc (Nat.le_refl _) (.cells (mcells 3 id ti d a wh (.slice A T.length c)) 42)
  have HB := Lib.hid hb0
  have HR := Lib.hid (Row.new w 42 (mcells 3 id ti d a wh (.slice A T.length c)))
  have HG := Lib.hid (h.up hb0)
  have HGW := Lib.hid h
  have HGR := Lib.hid hg
  have HT := Lib.hid hT
  have HF := Lib.hid hf; have HM := Lib.hid hm; have HL := Lib.hid hL
  clear h hb0 hg hT hf hm hL
  go_enter Try.func24, Try.ntmps24
  go_upto_region 1 with (fail)
  obtain ⟨n0, hn0⟩ : ∃ k, w.heap.size = k := ⟨_, rfl⟩
  rw [hn0] at HR HB HT hD ⊢
  have HN := Lib.hid hn0
  clear hn0
  generalize w.alloc (.cells #[.int .u8 3, .int .i64 id, .int .i64 ti, .int .i64 d, .int .i64 a, .bool wh, .slice A T.length c] 42) = w0 at *
  have e1 := HR.out.cell 1
  simp only [List.getElem?_toArray, List.getElem?_cons_zero, List.getElem?_cons_succ] at e1
  go_wp2_with fail
  refine (find_some w0 rb mb n m HG.out id hid t ht).mono ?_; rintro e w1 ⟨vt, hvr, rfl, hb⟩
  obtain ⟨At, ct, hvt⟩ : ∃ A c, vt = .slice A t.trail.length c := by obtain ⟨A, c, e, _⟩ := hvr; exact ⟨A, c, by rw [e, ivals_length]⟩
  subst hvt
  clear hvr e1
  have hb2 := hb.alloc hb.size (.cells (tcells t.id t.heard t.sure t.dir t.ahead (.slice At t.trail.length ct)) 58)
  have HB2 : Hid (Below n0 w (w1.alloc (.cells (tcells t.id t.heard t.sure t.dir t.ahead (.slice At t.trail.length ct)) 58))) := HB.out.trans (hb2.mono (by have := HR.out.lt; omega))
  have HR2 := Lib.hid (Below.row hb2 HR.out HR.out.lt)
  have HT2 := Lib.hid (Row.new w1 58 (tcells t.id t.heard t.sure t.dir t.ahead (.slice At t.trail.length ct)))
  have HN1 : Hid (n0 < w1.heap.size) := by have := hb.size; have := HR.out.lt; show _ < _; omega
  clear hb hb2 HB HR HG
  go_upto_region 4 with (fail)
  obtain ⟨n1, hn1⟩ : ∃ k, w1.heap.size = k := ⟨_, rfl⟩
  rw [hn1] at HT2 HN1 ⊢
  clear hn1
  generalize w1.alloc (.cells #[.int .i64 t.id, .int .i64 t.heard, .int .i64 t.sure, .int .i64 t.dir, .int .i64 t.ahead, .slice At t.trail.length ct] 58) = w2 at *
  have HFI := Lib.hid (fits_any w2 D vg L A c T 3 id ti d a wh (HGR.out.keep HB2.out hD) (by have := HT2.out.lt; have := HN1.out; omega) HL.out ((HT.out.below HB2.out (Nat.le_refl _)).mono (by have := HT2.out.lt; have := HN1.out; omega) (fun _ _ => rfl)) hTl)
  rw [HF.out] at HFI
  have m0 := HR2.out.cell 0; have m1 := HR2.out.cell 1; have m2 := HR2.out.cell 2; have m3 := HR2.out.cell 3; have m4 := HR2.out.cell 4; have m5 := HR2.out.cell 5; have m6 := HR2.out.cell 6
  simp only [List.getElem?_toArray, List.getElem?_cons_zero, List.getElem?_cons_succ] at m0 m1 m2 m3 m4 m5 m6
  go_wp2_with fail
  refine HFI.out.mono ?_; rintro e w3 ⟨rfl, hb3⟩
  have HB3 : Hid (Below n0 w w3) := HB2.out.trans (hb3.mono (by have := HT2.out.lt; have := HN1.out; omega))
  have HR3 := Lib.hid (Below.row hb3 HR2.out HR2.out.lt)
  have HT3 := Lib.hid (Below.row hb3 HT2.out HT2.out.lt)
  clear hb3 HB2 HR2 HT2 HFI m0 m1 m2 m3 m4 m5 m6
  have m2 := HR3.out.cell 2
  have f0 := HT3.out.cell 0; have f1 := HT3.out.cell 1; have f2 := HT3.out.cell 2; have f3 := HT3.out.cell 3; have f4 := HT3.out.cell 4; have f5 := HT3.out.cell 5
  simp only [List.getElem?_toArray, List.getElem?_cons_zero, List.getElem?_cons_succ] at m2 f0 f1 f2 f3 f4 f5
  have HMA := Lib.hid (may_any w3 t At ct now ti)
  rw [HM.out] at HMA
  go_wp2_with fail
  refine HMA.out.mono ?_; rintro e w4 ⟨rfl, hb4⟩
  have hb5 : Below w.heap.size w w4 := by rw [HN.out]; exact HB3.out.trans (hb4.mono (by have := HR3.out.lt; omega))
  have HG2 := Lib.hid (HGW.out.up hb5)
  have HK := Lib.hid (KeptL.of_below (S := [mb]) hb5)
  clear hb4 hb5 HMA
  go_wp2_with fail
  go_ret
  exact ⟨rfl, HG2.out, HK.out⟩

end Go.Proofs.Ytifcgkpannlnnaa
