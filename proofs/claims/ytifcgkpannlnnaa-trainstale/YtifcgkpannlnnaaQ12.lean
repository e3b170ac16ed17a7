/- Contract: Note where a report is taken. -/
import Derived.Test.YtifcgkpannlnnaaQ11
namespace Go.Proofs.Ytifcgkpannlnnaa
open Go.RowKit Fl Go.Maps
set_option maxRecDepth 100000

set_option maxHeartbeats 8000000 in
theorem note_ok (w : World) (rb mb n : Nat) (m : Mp) (h : Reg w rb mb n m) (D : Nat) (vg : Value) (L : Lay) (now id ti d a : Int) (wh : Bool) (A : Option Addr) (c : Nat) (T : List Int) (vW : Value) (t : Tr) (hid : (Lit.int .i64 id).wf = true) (ht : m id = some t)
    (hg : IsGr w D vg L) (hD : D ≤ w.heap.size) (hL : Fits L) (hT : Rd w w.heap.size (.slice A T.length c) (ivals T)) (hTl : T.length ≤ 1000) (hf : fitsP L T d a = true) (hm : mayP t now ti = true) (hn : n ≤ 1000000) (was : List Int) (hW : Rd w w.heap.size vW (ivals was)) (hwl : was.length ≤ 1000) (hwT : Wf T) (hwW : Wf was) (hti : t.id = id) :
    Calls Try.prog 24 #[.pointer (some ⟨rb, 0, none⟩), vg, .int .i64 now, .agg (mcells 3 id ti d a wh (.slice A T.length c)), vW] w (RetReg (.int .i64 0) rb mb (n + 1) (upd m id (some ⟨id, ti, if wh then ti else t.sure, d, a, if wh then T else joinL T was⟩)) w) := by
  have hb0 := (Below.refl w.heap.size w).alloc (Nat.le_refl _) (.cells (mcells 3 id ti d a wh (.slice A T.length c)) 42)
  have HB := Lib.hid hb0
  have HR := Lib.hid (Row.new w 42 (mcells 3 id ti d a wh (.slice A T.length c)))
  have HG := Lib.hid (h.up hb0)
  have HGW := Lib.hid h
  have HGR := Lib.hid hg
  have HT := Lib.hid hT
  have HF := Lib.hid hf; have HM := Lib.hid hm; have HL := Lib.hid hL
  have HTI := Lib.hid hti; have HWA := Lib.hid hW; have HWT := Lib.hid hwT; have HWW := Lib.hid hwW
  obtain ⟨Q, hQ⟩ : ∃ Q, RetReg (.int .i64 0) rb mb (n + 1) (upd m id (some ⟨id, ti, if wh then ti else t.sure, d, a, if wh then T else joinL T was⟩)) w = Q := ⟨_, rfl⟩
  rw [hQ]
  have HQ := Lib.hid hQ
  clear h hb0 hg hT hf hm hL hti hW hwT hwW hQ
  go_enter Try.func24, Try.ntmps24
  go_upto_region 1 with (fail)
  obtain ⟨n0, hn0⟩ : ∃ k, w.heap.size = k := ⟨_, rfl⟩
  rw [hn0] at HR HB HT HWA hD ⊢
  have HN := Lib.hid hn0
  clear hn0
  generalize w.alloc (.cells #[.int .u8 3, .int .i64 id, .int .i64 ti, .int .i64 d, .int .i64 a, .bool wh, .slice A T.length c] 42) = w0 at *
  have e1 := HR.out.cell 1
  simp only [List.getElem?_toArray, List.getElem?_cons_zero, List.getElem?_cons_succ] at e1
  go_wp2_with fail
  refine (find_some w0 rb mb n m HG.out id hid t ht).mono ?_; rintro e w1 ⟨vt, hvr, rfl, hb⟩
  obtain ⟨At, ct, hvt⟩ : ∃ A c, vt = .slice A t.trail.length c := by obtain ⟨A, c, e, _⟩ := hvr; exact ⟨A, c, by rw [e, ivals_length]⟩
  subst hvt
  clear hvr e1
  have hb2 := hb.alloc hb.size (.cells (tcells t.id t.heard t.sure t.dir t.ahead (.slice At t.trail.length ct)) 58)
  have HB2 : Hid (Below n0 w (w1.alloc (.cells (tcells t.id t.heard t.sure t.dir t.ahead (.slice At t.trail.length ct)) 58))) := HB.out.trans (hb2.mono (by have := HR.out.lt; omega))
  have HR2 := Lib.hid (Below.row hb2 HR.out HR.out.lt)
  have HT2 := Lib.hid (Row.new w1 58 (tcells t.id t.heard t.sure t.dir t.ahead (.slice At t.trail.length ct)))
  have HN1 : Hid (n0 < w1.heap.size) := by have := hb.size; have := HR.out.lt; show _ < _; omega
  clear hb hb2 HB HR HG
  go_upto_region 4 with (fail)
  obtain ⟨n1, hn1⟩ : ∃ k, w1.heap.size = k := ⟨_, rfl⟩
  rw [hn1] at HT2 HN1 ⊢
  clear hn1
  generalize w1.alloc (.cells #[.int .i64 t.id, .int .i64 t.heard, .int .i64 t.sure, .int .i64 t.dir, .int .i64 t.ahead, .slice At t.trail.length ct] 58) = w2 at *
  have HFI := Lib.hid (fits_any w2 D vg L A c T 3 id ti d a wh (HGR.out.keep HB2.out hD) (by have := HT2.out.lt; have := HN1.out; omega) HL.out ((HT.out.below HB2.out (Nat.le_refl _)).mono (by have := HT2.out.lt; have := HN1.out; omega) (fun _ _ => rfl)) hTl)
  rw [HF.out] at HFI
  have m0 := HR2.out.cell 0; have m1 := HR2.out.cell 1; have m2 := HR2.out.cell 2; have m3 := HR2.out.cell 3; have m4 := HR2.out.cell 4; have m5 := HR2.out.cell 5; have m6 := HR2.out.cell 6
  simp only [List.getElem?_toArray, List.getElem?_cons_zero, List.getElem?_cons_succ] at m0 m1 m2 m3 m4 m5 m6
  go_wp2_with fail
  refine HFI.out.mono ?_; rintro e w3 ⟨rfl, hb3⟩
  have HB3 : Hid (Below n0 w w3) := HB2.out.trans (hb3.mono (by have := HT2.out.lt; have := HN1.out; omega))
  have HR3 := Lib.hid (Below.row hb3 HR2.out HR2.out.lt)
  have HT3 := Lib.hid (Below.row hb3 HT2.out HT2.out.lt)
  clear hb3 HB2 HR2 HT2 HFI m0 m1 m2 m3 m4 m5 m6
  have m2 := HR3.out.cell 2
  have f0 := HT3.out.cell 0; have f1 := HT3.out.cell 1; have f2 := HT3.out.cell 2; have f3 := HT3.out.cell 3; have f4 := HT3.out.cell 4; have f5 := HT3.out.cell 5
  simp only [List.getElem?_toArray, List.getElem?_cons_zero, List.getElem?_cons_succ] at m2 f0 f1 f2 f3 f4 f5
  have HMA := Lib.hid (may_any w3 t At ct now ti)
  rw [HM.out] at HMA
  go_wp2_with fail
  refine HMA.out.mono ?_; rintro e w4 ⟨rfl, hb4⟩
  have HB4 : Hid (Below n0 w w4) := HB3.out.trans (hb4.mono (by have := HR3.out.lt; omega))
  have HR4 := Lib.hid (Below.row hb4 HR3.out HR3.out.lt)
  have HT4 := Lib.hid (Below.row hb4 HT3.out HT3.out.lt)
  clear hb4 HB3 HR3 HT3 HMA m2 f0 f1 f2 f3 f4 f5
  have HBD : Hid (Below n0 w w4.drew) := HB4.out.drew
  have HRD : Hid (Row w4.drew n0 42 (mcells 3 id ti d a wh (.slice A T.length c))) := HR4.out
  have HTD : Hid (Row w4.drew n1 58 (tcells t.id t.heard t.sure t.dir t.ahead (.slice At t.trail.length ct))) := HT4.out
  clear HR4 HT4
  have m2 := HRD.out.cell 2; have m3 := HRD.out.cell 3; have m4 := HRD.out.cell 4
  have f1 := HTD.out.cell 1; have f3 := HTD.out.cell 3; have f4 := HTD.out.cell 4
  have z1 := HTD.out.frozen 1; have z3 := HTD.out.frozen 3; have z4 := HTD.out.frozen 4
  simp only [List.getElem?_toArray, List.getElem?_cons_zero, List.getElem?_cons_succ] at m2 m3 m4 f1 f3 f4
  have HNE : Hid (n0 ≠ n1) := by have := HN1.out; show _ ≠ _; omega
  have r1 : Row (w4.setCell ⟨n1, 1, none⟩ (.int .i64 ti)).drew n0 42 (mcells 3 id ti d a wh (.slice A T.length c)) := Row.far (p := ⟨n1, 1, none⟩) HRD.out HNE.out _
  have r2 : Row ((w4.setCell ⟨n1, 1, none⟩ (.int .i64 ti)).setCell ⟨n1, 3, none⟩ (.int .i64 d)).drew n0 42 (mcells 3 id ti d a wh (.slice A T.length c)) := Row.far (p := ⟨n1, 3, none⟩) r1 HNE.out _
  have r3 : Row (((w4.setCell ⟨n1, 1, none⟩ (.int .i64 ti)).setCell ⟨n1, 3, none⟩ (.int .i64 d)).setCell ⟨n1, 4, none⟩ (.int .i64 a)).drew n0 42 (mcells 3 id ti d a wh (.slice A T.length c)) := Row.far (p := ⟨n1, 4, none⟩) r2 HNE.out _
  have q1 : Row (w4.setCell ⟨n1, 1, none⟩ (.int .i64 ti)).drew n1 58 (tcells t.id ti t.sure t.dir t.ahead (.slice At t.trail.length ct)) := HTD.out.set 1 (.int .i64 ti)
  have q2 : Row ((w4.setCell ⟨n1, 1, none⟩ (.int .i64 ti)).setCell ⟨n1, 3, none⟩ (.int .i64 d)).drew n1 58 (tcells t.id ti t.sure d t.ahead (.slice At t.trail.length ct)) := Row.set q1 3 (.int .i64 d)
  have q3 : Row (((w4.setCell ⟨n1, 1, none⟩ (.int .i64 ti)).setCell ⟨n1, 3, none⟩ (.int .i64 d)).setCell ⟨n1, 4, none⟩ (.int .i64 a)).drew n1 58 (tcells t.id ti t.sure d a (.slice At t.trail.length ct)) := Row.set q2 4 (.int .i64 a)
  have b3 : Below n0 w (((w4.setCell ⟨n1, 1, none⟩ (.int .i64 ti)).setCell ⟨n1, 3, none⟩ (.int .i64 d)).setCell ⟨n1, 4, none⟩ (.int .i64 a)).drew := (((HB4.out.setCell (p := ⟨n1, 1, none⟩) (by have := HN1.out; simp; omega) _).setCell (p := ⟨n1, 3, none⟩) (by have := HN1.out; simp; omega) _).setCell (p := ⟨n1, 4, none⟩) (by have := HN1.out; simp; omega) _).drew
  have s1 : (w4.setCell ⟨n1, 1, none⟩ (.int .i64 ti)).drew.cell? ⟨n0, 2, none⟩ = some (.int .i64 ti) ∧ (w4.setCell ⟨n1, 1, none⟩ (.int .i64 ti)).drew.cell? ⟨n0, 3, none⟩ = some (.int .i64 d) ∧ (w4.setCell ⟨n1, 1, none⟩ (.int .i64 ti)).drew.cell? ⟨n0, 4, none⟩ = some (.int .i64 a) := ⟨r1.cell 2, r1.cell 3, r1.cell 4⟩
  have s2 : ((w4.setCell ⟨n1, 1, none⟩ (.int .i64 ti)).setCell ⟨n1, 3, none⟩ (.int .i64 d)).drew.cell? ⟨n0, 2, none⟩ = some (.int .i64 ti) ∧ ((w4.setCell ⟨n1, 1, none⟩ (.int .i64 ti)).setCell ⟨n1, 3, none⟩ (.int .i64 d)).drew.cell? ⟨n0, 3, none⟩ = some (.int .i64 d) ∧ ((w4.setCell ⟨n1, 1, none⟩ (.int .i64 ti)).setCell ⟨n1, 3, none⟩ (.int .i64 d)).drew.cell? ⟨n0, 4, none⟩ = some (.int .i64 a) := ⟨r2.cell 2, r2.cell 3, r2.cell 4⟩
  have s3 : (((w4.setCell ⟨n1, 1, none⟩ (.int .i64 ti)).setCell ⟨n1, 3, none⟩ (.int .i64 d)).setCell ⟨n1, 4, none⟩ (.int .i64 a)).drew.cell? ⟨n0, 2, none⟩ = some (.int .i64 ti) ∧ (((w4.setCell ⟨n1, 1, none⟩ (.int .i64 ti)).setCell ⟨n1, 3, none⟩ (.int .i64 d)).setCell ⟨n1, 4, none⟩ (.int .i64 a)).drew.cell? ⟨n0, 3, none⟩ = some (.int .i64 d) ∧ (((w4.setCell ⟨n1, 1, none⟩ (.int .i64 ti)).setCell ⟨n1, 3, none⟩ (.int .i64 d)).setCell ⟨n1, 4, none⟩ (.int .i64 a)).drew.cell? ⟨n0, 4, none⟩ = some (.int .i64 a) := ⟨r3.cell 2, r3.cell 3, r3.cell 4⟩
  have g3 := q1.cell 3; have g4 := q2.cell 4; have y3 := q1.frozen 3; have y4 := q2.frozen 4
  simp only [List.getElem?_toArray, List.getElem?_cons_zero, List.getElem?_cons_succ] at g3 g4
  have HR5 := Lib.hid r3; have HT5 := Lib.hid q3; have HB5 := Lib.hid b3
  clear r1 r2 r3 q1 q2 q3 b3
  go_upto_region 8 with (fail)
  go_region_held3 (fun w' => w'.cell? ⟨n0, 2, none⟩ = some (.int .i64 ti) ∧ w'.cell? ⟨n0, 3, none⟩ = some (.int .i64 d) ∧ w'.cell? ⟨n0, 4, none⟩ = some (.int .i64 a)) (first | (with_reducible assumption) | go_keep) (fail)
  clear s1 s2 s3 g3 g4 y3 y4 m2 m3 m4 f1 f3 f4 z1 z3 z4 HRD HTD HBD HB4
  generalize (((w4.setCell ⟨n1, 1, none⟩ (.int .i64 ti)).setCell ⟨n1, 3, none⟩ (.int .i64 d)).setCell ⟨n1, 4, none⟩ (.int .i64 a)).drew = W5 at *
  have HT5R : Hid (Rd W5 n0 (.slice A T.length c) (ivals T)) := HT.out.below HB5.out (Nat.le_refl _)
  have HW5R : Hid (Rd W5 n0 vW (ivals was)) := HWA.out.below HB5.out (Nat.le_refl _)
  have HL5 : Hid (n0 < W5.heap.size ∧ n1 < W5.heap.size) := ⟨HR5.out.lt, HT5.out.lt⟩
  cases wh with
  | true =>
    have e2 := HR5.out.cell 2; have e5 := HR5.out.cell 5; have e6 := HR5.out.cell 6
    simp only [List.getElem?_toArray, List.getElem?_cons_zero, List.getElem?_cons_succ] at e2 e5 e6
    have HCL := Lib.hid (clone38 W5.drew n0 (.slice A T.length c) T (HT5R.out.mono (Nat.le_refl _) (fun _ _ => rfl)) (by omega))
    have HBD : Hid (Below n0 w W5.drew) := HB5.out.drew
    have HRD : Hid (Row W5.drew n0 42 (mcells 3 id ti d a true (.slice A T.length c))) := HR5.out
    have HTD : Hid (Row W5.drew n1 58 (tcells t.id ti t.sure d a (.slice At t.trail.length ct))) := HT5.out
    have s0 : W5.drew.cell? ⟨n0, 2, none⟩ = some (.int .i64 ti) ∧ W5.drew.cell? ⟨n0, 6, none⟩ = some (.slice A T.length c) := ⟨HRD.out.cell 2, HRD.out.cell 6⟩
    go_upto_region 10 with (fail)
    go_region_held3 (fun w' => w'.cell? ⟨n0, 2, none⟩ = some (.int .i64 ti) ∧ w'.cell? ⟨n0, 6, none⟩ = some (.slice A T.length c)) (first | (with_reducible assumption) | exact s0 | go_keep) (first | (go_at_call 34; (with_reducible refine HCL.out.mono ?_); rintro e w6 ⟨vU, rfl, ho6, hb6⟩; obtain ⟨AU, cU, hvU⟩ := own_slice ho6; subst hvU; have HB6 : Hid (Below n0 w w6) := HBD.out.trans (hb6.mono (Nat.le_of_lt HL5.out.1)); have r0 := Below.row hb6 HRD.out HRD.out.lt; have q0 := Below.row hb6 HTD.out HTD.out.lt; have HO6 := Lib.hid ho6; have HOL : Hid (∀ g, (Value.slice AU T.length cU).ownBlock = some g → n1 < g) := (fun g hg => by have h1 := (ho6.lt g hg).1; have h2 := HL5.out.2; have h3 : W5.drew.heap.size = W5.heap.size := rfl; omega); have r1 : Row (w6.setCell ⟨n1, 2, none⟩ (.int .i64 ti)) n0 42 (mcells 3 id ti d a true (.slice A T.length c)) := Row.far (p := ⟨n1, 2, none⟩) r0 HNE.out _; have r2 : Row ((w6.setCell ⟨n1, 2, none⟩ (.int .i64 ti)).setCell ⟨n1, 5, none⟩ (.slice AU T.length cU)) n0 42 (mcells 3 id ti d a true (.slice A T.length c)) := Row.far (p := ⟨n1, 5, none⟩) r1 HNE.out _; have q1 : Row (w6.setCell ⟨n1, 2, none⟩ (.int .i64 ti)) n1 58 (tcells t.id ti ti d a (.slice At t.trail.length ct)) := Row.set q0 2 (.int .i64 ti); have q2 : Row ((w6.setCell ⟨n1, 2, none⟩ (.int .i64 ti)).setCell ⟨n1, 5, none⟩ (.slice AU T.length cU)) n1 58 (tcells t.id ti ti d a (.slice AU T.length cU)) := Row.set q1 5 (.slice AU T.length cU); have s6 : w6.cell? ⟨n0, 2, none⟩ = some (.int .i64 ti) ∧ w6.cell? ⟨n0, 6, none⟩ = some (.slice A T.length c) := ⟨r0.cell 2, r0.cell 6⟩; have s7 : (w6.setCell ⟨n1, 2, none⟩ (.int .i64 ti)).cell? ⟨n0, 2, none⟩ = some (.int .i64 ti) ∧ (w6.setCell ⟨n1, 2, none⟩ (.int .i64 ti)).cell? ⟨n0, 6, none⟩ = some (.slice A T.length c) := ⟨r1.cell 2, r1.cell 6⟩; have s8 : ((w6.setCell ⟨n1, 2, none⟩ (.int .i64 ti)).setCell ⟨n1, 5, none⟩ (.slice AU T.length cU)).cell? ⟨n0, 2, none⟩ = some (.int .i64 ti) ∧ ((w6.setCell ⟨n1, 2, none⟩ (.int .i64 ti)).setCell ⟨n1, 5, none⟩ (.slice AU T.length cU)).cell? ⟨n0, 6, none⟩ = some (.slice A T.length c) := ⟨r2.cell 2, r2.cell 6⟩; have g2 := q0.cell 2; have g5 := q1.cell 5; have y2 := q0.frozen 2; have y5 := q1.frozen 5; simp only [List.getElem?_toArray, List.getElem?_cons_zero, List.getElem?_cons_succ] at g2 g5; have HTW := Lib.hid q2; clear ho6 hb6 r0 r1 r2 q0 q1 q2))
    have HBW : Hid (Below n0 w ((w6.setCell ⟨n1, 2, none⟩ (.int .i64 ti)).setCell ⟨n1, 5, none⟩ (.slice AU T.length cU))) := (HB6.out.setCell (p := ⟨n1, 2, none⟩) (by have := HN1.out; simp; omega) _).setCell (p := ⟨n1, 5, none⟩) (by have := HN1.out; simp; omega) _
    have HUW : Hid (Rd ((w6.setCell ⟨n1, 2, none⟩ (.int .i64 ti)).setCell ⟨n1, 5, none⟩ (.slice AU T.length cU)) ((w6.setCell ⟨n1, 2, none⟩ (.int .i64 ti)).setCell ⟨n1, 5, none⟩ (.slice AU T.length cU)).heap.size (.slice AU T.length cU) (ivals T)) := Rd.of_own (own_far (own_far HO6.out (a := ⟨n1, 2, none⟩) (fun e => by have := HOL.out _ e; simp at this) _) (a := ⟨n1, 5, none⟩) (fun e => by have := HOL.out _ e; simp at this) _)
    clear s0 s6 s7 s8 g2 g5 y2 y5 e2 e5 e6 HO6 HOL HB6 HCL HBD HRD HTD
    generalize ((w6.setCell ⟨n1, 2, none⟩ (.int .i64 ti)).setCell ⟨n1, 5, none⟩ (.slice AU T.length cU)) = W at *
    go_upto_region 12 with (fail)
    have hbw : Below w.heap.size w W := by rw [HN.out]; exact HBW.out
    have hgw := HGW.out.up hbw
    have HKW := Lib.hid (KeptL.of_below (S := [mb]) hbw)
    have c0 := hgw.row.cell 0
    have f0 := HTW.out.cell 0; have f1 := HTW.out.cell 1; have f2 := HTW.out.cell 2; have f3 := HTW.out.cell 3; have f4 := HTW.out.cell 4; have f5 := HTW.out.cell 5
    simp only [List.getElem?_toArray, List.getElem?_cons_zero, List.getElem?_cons_succ] at c0 f0 f1 f2 f3 f4 f5
    have HUD : Hid (Rd W.drew W.drew.heap.size (.slice AU T.length cU) (ivals T)) := HUW.out.mono (Nat.le_refl _) (fun _ _ => rfl)
    have hgd := hgw.up (show Below W.heap.size W W.drew from (Below.refl _ _).drew)
    have HKD : Hid (KeptL [mb] w W.drew) := KeptL.of_below (S := [mb]) hbw.drew
    have hidt : (Lit.int .i64 t.id).wf = true := by rw [HTI.out]; exact hid
    clear hbw hgw HBW HUW
    go_still_tail 7, (by kernel_rfl)
    change wpList _ _ _ _ _ W.drew
    clear c0 f0 f1 f2 f3 f4 f5 HTW
    generalize W.drew = wd at *
    obtain ⟨D', hown, hD'⟩ := hgd.map
    have HD := Lib.hid hD'
    have HRW := Lib.hid hgd.row
    have HNM := Lib.hid hgd.ne
    have HOW := Lib.hid hown
    clear hgd hD'
    go_wp2_with (first
      | (at_mapUpdate; refine wpList_mapUpdate_own _ rfl _ _ _ 91 rfl 3 58 keyed3 Try.underlying91 heldV mb n _ rfl hown (by unfold maxLen; omega) _ _ _ rfl rfl (key3 hidt) (.held (.agg (tcells t.id ti (ti) d a (.slice AU T.length cU)))) [] rfl ?_; intro w9 hown3 hgrow3)
      | fail)
    obtain ⟨r1, r2⟩ := Reg.stored HRW.out HOW.out HD.out (⟨.slice AU T.length cU, rfl, HUD.out⟩ : TrV wd _ ⟨t.id, ti, ti, d, a, T⟩) HNM.out hown3 hgrow3
    rw [HTI.out] at r1
    have HZ1 := Lib.hid r1
    have HZ2 := Lib.hid (HKD.out.trans r2)
    clear r1 r2 hown3 hgrow3 hown
    go_wp2_with fail
    rw [← HQ.out]
    exact ⟨rfl, HZ1.out, HZ2.out⟩
  | false =>
    have e5 := HR5.out.cell 5; have e6 := HR5.out.cell 6
    simp only [List.getElem?_toArray, List.getElem?_cons_zero, List.getElem?_cons_succ] at e5 e6
    have HJO := Lib.hid (join_any W5 (.slice A T.length c) vW T was (HT5R.out.mono (Nat.le_of_lt HL5.out.1) (fun _ _ => rfl)) (HW5R.out.mono (Nat.le_of_lt HL5.out.1) (fun _ _ => rfl)) (by omega) (by omega) HWT.out HWW.out)
    go_wp2_with fail
    refine HJO.out.mono ?_; rintro e w6 ⟨vU, rfl, ho6, hb6⟩
    obtain ⟨U, hU⟩ : ∃ U, joinL T was = U := ⟨_, rfl⟩
    rw [hU] at ho6
    have HU := Lib.hid hU
    clear hU
    obtain ⟨AU, cU, hvU⟩ := own_slice ho6
    subst hvU
    have HB6 : Hid (Below n0 w w6) := HB5.out.trans (hb6.mono (Nat.le_of_lt HL5.out.1))
    have q0 := Below.row hb6 HT5.out HT5.out.lt
    have g5 := q0.cell 5; have y5 := q0.frozen 5
    simp only [List.getElem?_toArray, List.getElem?_cons_zero, List.getElem?_cons_succ] at g5
    have HTW : Hid (Row (w6.setCell ⟨n1, 5, none⟩ (.slice AU U.length cU)) n1 58 (tcells t.id ti t.sure d a (.slice AU U.length cU))) := Row.set q0 5 (.slice AU U.length cU)
    have HBW : Hid (Below n0 w (w6.setCell ⟨n1, 5, none⟩ (.slice AU U.length cU))) := HB6.out.setCell (p := ⟨n1, 5, none⟩) (by have := HN1.out; simp; omega) _
    have HUW : Hid (Rd (w6.setCell ⟨n1, 5, none⟩ (.slice AU U.length cU)) (w6.setCell ⟨n1, 5, none⟩ (.slice AU U.length cU)).heap.size (.slice AU U.length cU) (ivals U)) := Rd.of_own (own_far ho6 (a := ⟨n1, 5, none⟩) (fun e => by have h1 := (ho6.lt _ e).1; have h2 := HL5.out.2; simp at h1; omega) _)
    clear ho6 hb6 q0 HB6 HJO e5 e6
    go_upto_region 12 with (fail)
    generalize w6.setCell ⟨n1, 5, none⟩ (.slice AU U.length cU) = W at *
    go_upto_region 12 with (fail)
    have hbw : Below w.heap.size w W := by rw [HN.out]; exact HBW.out
    have hgw := HGW.out.up hbw
    have HKW := Lib.hid (KeptL.of_below (S := [mb]) hbw)
    have c0 := hgw.row.cell 0
    have f0 := HTW.out.cell 0; have f1 := HTW.out.cell 1; have f2 := HTW.out.cell 2; have f3 := HTW.out.cell 3; have f4 := HTW.out.cell 4; have f5 := HTW.out.cell 5
    simp only [List.getElem?_toArray, List.getElem?_cons_zero, List.getElem?_cons_succ] at c0 f0 f1 f2 f3 f4 f5
    have HUD : Hid (Rd W.drew W.drew.heap.size (.slice AU U.length cU) (ivals U)) := HUW.out.mono (Nat.le_refl _) (fun _ _ => rfl)
    have hgd := hgw.up (show Below W.heap.size W W.drew from (Below.refl _ _).drew)
    have HKD : Hid (KeptL [mb] w W.drew) := KeptL.of_below (S := [mb]) hbw.drew
    have hidt : (Lit.int .i64 t.id).wf = true := by rw [HTI.out]; exact hid
    clear hbw hgw HBW HUW
    go_still_tail 7, (by kernel_rfl)
    change wpList _ _ _ _ _ W.drew
    clear c0 f0 f1 f2 f3 f4 f5 HTW
    generalize W.drew = wd at *
    obtain ⟨D', hown, hD'⟩ := hgd.map
    have HD := Lib.hid hD'
    have HRW := Lib.hid hgd.row
    have HNM := Lib.hid hgd.ne
    have HOW := Lib.hid hown
    clear hgd hD'
    go_wp2_with (first
      | (at_mapUpdate; refine wpList_mapUpdate_own _ rfl _ _ _ 91 rfl 3 58 keyed3 Try.underlying91 heldV mb n _ rfl hown (by unfold maxLen; omega) _ _ _ rfl rfl (key3 hidt) (.held (.agg (tcells t.id ti (t.sure) d a (.slice AU U.length cU)))) [] rfl ?_; intro w9 hown3 hgrow3)
      | fail)
    obtain ⟨r1, r2⟩ := Reg.stored HRW.out HOW.out HD.out (⟨.slice AU U.length cU, rfl, HUD.out⟩ : TrV wd _ ⟨t.id, ti, t.sure, d, a, U⟩) HNM.out hown3 hgrow3
    rw [HTI.out] at r1
    have HZ1 := Lib.hid r1
    have HZ2 := Lib.hid (HKD.out.trans r2)
    clear r1 r2 hown3 hgrow3 hown
    go_wp2_with fail
    rw [← HQ.out, HU.out]
    exact ⟨rfl, HZ1.out, HZ2.out⟩

end Go.Proofs.Ytifcgkpannlnnaa
