/- Contracts: Span and Front by the list; the document's example; has it not too much? -/
import Derived.Test.YtbomkifnhkmkoaaA3
import Derived.Test.YtbomkifnhkmkoaaB1
import Derived.Test.YtbomkifnhkmkoaaCM2
import Derived.Test.YtbomkifnhkmkoaaFull
namespace Go.Proofs.Ytbomkifnhkmkoaa
open Go.RowKit Fl
set_option maxRecDepth 100000

theorem prog_span (w : World) (D : Nat) (vg : Value) (L : Lay) (a b c d e : Int) (At : Option Addr) (ct : Nat) (tr : List Int) (now sp : Int) (AR : Option Addr) (cR : Nat) (R : List Bool)
    (h : IsGr w D vg L) (hD : D ≤ w.heap.size) (hL : Fits L) (T : Tame L) (hlen : ∀ n : Nat, n < L.secs.length → 0 < lenL L.secs (n : Int) ∧ lenL L.secs (n : Int) ≤ 1000)
    (htr : Rd w w.heap.size (.slice At tr.length ct) (ivals tr)) (htl : tr.length ≤ 1000) (hR : Rd w w.heap.size (.slice AR R.length cR) (cvals R))
    (h0 : tr.length ≠ 0) (ok : okE L (tr.getD 0 0, d)) (hs : 0 ≤ sp ∧ sp ≤ 1000000) (hd : 0 ≤ now - b ∧ now - b ≤ 1000000000000) (he : 0 ≤ e ∧ e ≤ 1000000000000) :
    Calls Try.prog 15 #[vg, .agg (tcells a b c d e (.slice At tr.length ct)), .int .i64 now, .int .i64 sp, .slice AR R.length cR] w (RetOwn w.heap.size (spanL L R tr d (sp * (now - b) - e)) w) :=
  span_of w vg _ a b c d e At ct tr now sp _ htr htl (by have := ahead_len T R (sp * (now - b) - e) ok; have := hL.s; omega)
    (fun W hW => ahead_any W D vg L a b c d e At ct tr now sp AR cR R (h.keep hW hD) (by have := hW.size; omega) hL T hlen (htr.up hW) htl (hR.up hW) h0 ok hs hd he)

theorem prog_front (w : World) (D : Nat) (vg : Value) (L : Lay) (a b c d e : Int) (At : Option Addr) (ct : Nat) (tr : List Int) (now sp : Int) (AR : Option Addr) (cR : Nat) (R : List Bool)
    (h : IsGr w D vg L) (hD : D ≤ w.heap.size) (hL : Fits L) (T : Tame L) (hlen : ∀ n : Nat, n < L.secs.length → 0 < lenL L.secs (n : Int) ∧ lenL L.secs (n : Int) ≤ 1000)
    (htr : Rd w w.heap.size (.slice At tr.length ct) (ivals tr)) (htl : tr.length ≤ 1000) (hR : Rd w w.heap.size (.slice AR R.length cR) (cvals R))
    (h0 : tr.length ≠ 0) (ok : okE L (tr.getD 0 0, d)) (hs : 0 ≤ sp ∧ sp ≤ 1000000) (hd : 0 ≤ now - b ∧ now - b ≤ 1000000000000) (he : 0 ≤ e ∧ e ≤ 1000000000000) :
    Calls Try.prog 16 #[vg, .agg (tcells a b c d e (.slice At tr.length ct)), .int .i64 now, .int .i64 sp, .slice AR R.length cR] w fun x w' => x = .returned (.agg #[.int .i64 (aheadL L R tr d (sp * (now - b) - e)).2.1, .int .i64 (aheadL L R tr d (sp * (now - b) - e)).2.2]) ∧ Below w.heap.size w w' :=
  front_of w vg _ a b c d e At ct tr now sp _
    (fun W hW => ahead_any W D vg L a b c d e At ct tr now sp AR cR R (h.keep hW hD) (by have := hW.size; omega) hL T hlen (htr.up hW) htl (hR.up hW) h0 ok hs hd he)

def d00 : Dr := ⟨0, 0, 0, 0, 0, 0, 0, 0, []⟩
theorem later_one : spanL (fullL d00) [] [0] 1 (5 * (5 - 4) - 5) = [0] := by decide +kernel
theorem later_two : spanL (fullL d00) [] [0] 1 (5 * (6 - 4) - 5) = [1, 0] := by decide +kernel
theorem later_len : 0 < (fullL d00).secs.length := (full_secs d00).1

theorem ints_lit (w : World) (va vb : Value) (xs : List Int) (ha : Rd w w.heap.size va (ivals xs)) (hb : Rd w w.heap.size vb (ivals xs)) (hl : xs.length ≤ 1000) : Calls Try.prog 14 #[va, vb] w (RetB true w) := by
  have h := ints_any w _ va vb xs xs ha hb (by omega)
  rw [show decide (xs = xs) = true from decide_eq_true rfl] at h
  exact h

set_option maxHeartbeats 8000000 in
theorem later_any (w : World) : Calls Try.prog 9 #[] w (RetL true w) := by
  have HMK : Hid (∀ W : World, Calls Try.prog 24 #[.agg #[.int .u8 0, .int .u8 0, .int .u8 0, .int .u16 0, .int .u16 0, .int .u8 0, .int .u8 0, .int .u8 0, .slice none 0 0]] W (RetLay (fullL d00) W)) := fun W => by
    refine (makeDraft_any W d00 (.slice none 0 0) ⟨by decide, by decide, by decide, by decide, by decide, by decide, by decide, by decide, by simp [d00]⟩ ⟨[], Rd.empty _ _, rfl, by simp [d00]⟩).mono ?_
    rintro x w' ⟨vN, vS, vP, vQ, rfl, hF, hb⟩
    exact ⟨_, rfl, IsLay.v ⟨vN, vS, vP, vQ, _, rfl, hF⟩, hb⟩
  have HFT : Hid (Fits (fullL d00)) := fullL_fits d00
  have HTM : Hid (Tame (fullL d00)) := tame_full d00
  have HSE := Lib.hid (full_secs d00)
  have H1 := Lib.hid later_one; have H2 := Lib.hid later_two
  have HOK : Hid (okE (fullL d00) (([0] : List Int).getD 0 0, 1)) := ⟨0, rfl, later_len, Or.inr rfl⟩
  generalize fullL d00 = L at *
  go_enter Try.func9, Try.ntmps9
  go_wp2_with fail
  refine (HMK.out w).mono ?_; rintro x w1 ⟨vL, rfl, hvL, hb1⟩
  obtain ⟨A0, k0, c0, A1, k1, c1, A2, k2, c2, A3, k3, c3, A4, k4, c4, t0, t1, t2, t3, t4, hv, -, -, -, -⟩ := hvL.lens
  subst hv
  have hb2 := (Below.refl w1.heap.size w1).alloc (Nat.le_refl _) (.cells #[.slice A0 k0 c0, .slice A1 k1 c1, .slice A2 k2 c2, .slice A3 k3 c3, .slice A4 k4 c4, .int .i64 t0, .int .i64 t1, .int .i64 t2, .int .i64 t3, .int .i64 t4] 37)
  have HB2 : Hid (Below w.heap.size w (w1.alloc (.cells #[.slice A0 k0 c0, .slice A1 k1 c1, .slice A2 k2 c2, .slice A3 k3 c3, .slice A4 k4 c4, .int .i64 t0, .int .i64 t1, .int .i64 t2, .int .i64 t3, .int .i64 t4] 37))) := hb1.trans (hb2.mono hb1.size)
  have HV2 := Lib.hid (hvL.up hb2)
  have HR2 := Lib.hid (Row.new w1 37 #[.slice A0 k0 c0, .slice A1 k1 c1, .slice A2 k2 c2, .slice A3 k3 c3, .slice A4 k4 c4, .int .i64 t0, .int .i64 t1, .int .i64 t2, .int .i64 t3, .int .i64 t4])
  clear hb1 hb2 hvL HMK
  go_upto_region 2 with (fail)
  obtain ⟨b1, hb1⟩ : ∃ n, n = w1.heap.size := ⟨_, rfl⟩
  rw [← hb1] at HR2 ⊢
  clear hb1
  generalize w1.alloc (.cells #[.slice A0 k0 c0, .slice A1 k1 c1, .slice A2 k2 c2, .slice A3 k3 c3, .slice A4 k4 c4, .int .i64 t0, .int .i64 t1, .int .i64 t2, .int .i64 t3, .int .i64 t4] 37) = w2 at *
  have hb3 := below2 w2 (.cells #[.int .i64 0] 3) (.cells (tcells 0 4 0 1 5 (.slice (some ⟨w2.heap.size, 0, none⟩) 1 1)) 40)
  have HB3 : Hid (Below w.heap.size w ((w2.alloc (.cells #[.int .i64 0] 3)).alloc (.cells (tcells 0 4 0 1 5 (.slice (some ⟨w2.heap.size, 0, none⟩) 1 1)) 40))) := HB2.out.trans (hb3.mono HB2.out.size)
  have HV3 := Lib.hid (HV2.out.up hb3)
  have HR3 := Lib.hid (Below.row hb3 HR2.out HR2.out.lt)
  have hlit := Rd.lit w2 [0] #[.int .i64 0] 1 rfl rfl
  have HX3 := Lib.hid (hlit.up ((Below.refl _ _).alloc (Nat.le_refl _) (.cells (tcells 0 4 0 1 5 (.slice (some ⟨w2.heap.size, 0, none⟩) 1 1)) 40)))
  have hrt := Row.new (w2.alloc (.cells #[.int .i64 0] 3)) 40 (tcells 0 4 0 1 5 (.slice (some ⟨w2.heap.size, 0, none⟩) 1 1))
  rw [World.size_alloc] at hrt
  have HT3 := Lib.hid hrt
  clear hb3 hlit hrt HB2 HV2 HR2
  go_upto_region 3 with (fail)
  obtain ⟨gt, hgt⟩ : ∃ n, n = w2.heap.size := ⟨_, rfl⟩
  rw [← hgt] at HB3 HV3 HR3 HX3 HT3 ⊢
  obtain ⟨b2, hb2⟩ : ∃ n, n = gt + 1 := ⟨_, rfl⟩
  rw [← hb2] at HT3 ⊢
  clear hgt hb2
  generalize (w2.alloc (.cells #[.int .i64 0] 3)).alloc (.cells (tcells 0 4 0 1 5 (.slice (some ⟨gt, 0, none⟩) 1 1)) 40) = w3 at *
  have p0 := HR3.out.cell 0; have p1 := HR3.out.cell 1; have p2 := HR3.out.cell 2; have p3 := HR3.out.cell 3; have p4 := HR3.out.cell 4; have p5 := HR3.out.cell 5; have p6 := HR3.out.cell 6; have p7 := HR3.out.cell 7; have p8 := HR3.out.cell 8; have p9 := HR3.out.cell 9
  simp only [List.getElem?_toArray, List.getElem?_cons_zero, List.getElem?_cons_succ] at p0 p1 p2 p3 p4 p5 p6 p7 p8 p9
  go_wp2_with fail
  refine (new_any w3 _ L HV3.out HFT.out).mono ?_; rintro x w4 ⟨vg, rfl, hg, hb4⟩
  have HB4 : Hid (Below w.heap.size w w4) := HB3.out.trans (hb4.mono HB3.out.size)
  have HX4 := Lib.hid (HX3.out.up hb4)
  have HT4 := Lib.hid (Below.row hb4 HT3.out HT3.out.lt)
  have HG4 := Lib.hid hg
  clear hg hb4 p0 p1 p2 p3 p4 p5 p6 p7 p8 p9 HB3 HV3 HR3 HX3 HT3
  have e0 := HT4.out.cell 0; have e1 := HT4.out.cell 1; have e2 := HT4.out.cell 2; have e3 := HT4.out.cell 3; have e4 := HT4.out.cell 4; have e5 := HT4.out.cell 5
  simp only [List.getElem?_toArray, List.getElem?_cons_zero, List.getElem?_cons_succ] at e0 e1 e2 e3 e4 e5
  go_wp2_with fail
  refine (prog_span w4 _ vg L 0 4 0 1 5 (some ⟨gt, 0, none⟩) 1 [0] 5 5 none 0 [] HG4.out (Nat.le_refl _) HFT.out HTM.out HSE.out.2 HX4.out (by decide) (Rd.empty _ _) (by decide) HOK.out (by decide) (by decide) (by decide)).mono ?_; rintro x w5 ⟨v5, rfl, ho5, hb5⟩
  rw [H1.out] at ho5
  have hba := hb5.alloc hb5.size (.cells #[.int .i64 0] 3)
  have HB5 : Hid (Below w.heap.size w (w5.alloc (.cells #[.int .i64 0] 3))) := HB4.out.trans (hba.mono HB4.out.size)
  have HX5 := Lib.hid (HX4.out.up hba)
  have HT5 := Lib.hid (Below.row hba HT4.out HT4.out.lt)
  have HG5 := Lib.hid (HG4.out.keep hba (Nat.le_refl _))
  have HO5 := Lib.hid ((Rd.of_own ho5).up ((Below.refl _ _).alloc (Nat.le_refl _) (.cells #[.int .i64 0] 3)))
  have HL5 := Lib.hid (Rd.lit w5 [0] #[.int .i64 0] 1 rfl rfl)
  have HS5 : Hid (w4.heap.size ≤ (w5.alloc (.cells #[.int .i64 0] 3)).heap.size) := hba.size
  clear hba hb5 ho5 e0 e1 e2 e3 e4 e5 HB4 HX4 HT4 HG4
  go_wp2_with fail
  refine (ints_lit _ _ _ [0] HO5.out HL5.out (by decide)).mono ?_; rintro x w6 ⟨rfl, n6, hw6⟩
  have hb6 : Below (w5.alloc (.cells #[.int .i64 0] 3)).heap.size (w5.alloc (.cells #[.int .i64 0] 3)) w6 := by rw [hw6]; exact Below.drewN (Below.refl _ _) _
  have HB6 : Hid (Below w.heap.size w w6) := HB5.out.trans (hb6.mono HB5.out.size)
  have HX6 := Lib.hid (HX5.out.up hb6)
  have HT6 := Lib.hid (Below.row hb6 HT5.out HT5.out.lt)
  have HG6 := Lib.hid (HG5.out.keep hb6 HS5.out)
  have HS6 : Hid (w4.heap.size ≤ w6.heap.size) := Nat.le_trans HS5.out hb6.size
  clear hb6 hw6 HB5 HX5 HT5 HG5 HO5 HL5 HS5
  have e0 := HT6.out.cell 0; have e1 := HT6.out.cell 1; have e2 := HT6.out.cell 2; have e3 := HT6.out.cell 3; have e4 := HT6.out.cell 4; have e5 := HT6.out.cell 5
  simp only [List.getElem?_toArray, List.getElem?_cons_zero, List.getElem?_cons_succ] at e0 e1 e2 e3 e4 e5
  go_wp2_with fail
  refine (prog_span w6 _ vg L 0 4 0 1 5 (some ⟨gt, 0, none⟩) 1 [0] 6 5 none 0 [] HG6.out HS6.out HFT.out HTM.out HSE.out.2 HX6.out (by decide) (Rd.empty _ _) (by decide) HOK.out (by decide) (by decide) (by decide)).mono ?_; rintro x w7 ⟨v7, rfl, ho7, hb7⟩
  rw [H2.out] at ho7
  have hba := hb7.alloc hb7.size (.cells #[.int .i64 1, .int .i64 0] 3)
  have HB7 : Hid (Below w.heap.size w (w7.alloc (.cells #[.int .i64 1, .int .i64 0] 3))) := HB6.out.trans (hba.mono HB6.out.size)
  have HO7 := Lib.hid ((Rd.of_own ho7).up ((Below.refl _ _).alloc (Nat.le_refl _) (.cells #[.int .i64 1, .int .i64 0] 3)))
  have HL7 := Lib.hid (Rd.lit w7 [1, 0] #[.int .i64 1, .int .i64 0] 2 rfl rfl)
  clear hba hb7 ho7 e0 e1 e2 e3 e4 e5 HB6 HX6 HT6 HG6
  go_wp2_with fail
  refine (ints_lit _ _ _ [1, 0] HO7.out HL7.out (by decide)).mono ?_; rintro x w8 ⟨rfl, n8, hw8⟩
  have HB8 : Hid (Below w.heap.size w w8) := by rw [hw8]; exact Below.drewN HB7.out n8
  clear hw8 HB7 HO7 HL7
  go_wp2_with fail
  go_ret
  exact ⟨rfl, HB8.out⟩

/-- A spot that came in. -/
structure Sp where
  fr : Nat
  lo : Nat
  ts : List Nat
  ah : Nat
  he : Nat
  tk : Nat
  sp : Nat
  ri : List Bool
def scells8 (x : Sp) (vt vr : Value) : Array Value := #[.int .u8 (x.fr : Int), .int .u8 (x.lo : Int), vt, .int .u16 (x.ah : Int), .int .u16 (x.he : Int), .int .u16 (x.tk : Int), .int .u16 (x.sp : Int), vr]
def spV (x : Sp) (vt vr : Value) : Value := .agg #[.int .u8 (x.fr : Int), .int .u8 (x.lo : Int), vt, .int .u16 (x.ah : Int), .int .u16 (x.he : Int), .int .u16 (x.tk : Int), .int .u16 (x.sp : Int), vr]
structure SpOk (x : Sp) : Prop where
  fr : x.fr < 256
  lo : x.lo < 256
  by_ : ∀ y ∈ x.ts, y < 256
  ah : x.ah < 65536
  he : x.he < 65536
  tk : x.tk < 65536
  sp : x.sp < 65536
def smallX (d : Dr) (x : Sp) : Bool := small d && (decide (x.ts.length ≤ 12) && decide (x.ri.length ≤ 20))

end Go.Proofs.Ytbomkifnhkmkoaa
