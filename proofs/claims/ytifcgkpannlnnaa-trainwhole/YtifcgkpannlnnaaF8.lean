/- Contract: a report of an act. -/
import Derived.Test.YtifcgkpannlnnaaF7
import Derived.Test.YtifcgkpannlnnaaWalk
namespace Go.Proofs.Ytifcgkpannlnnaa
open Go.RowKit Fl
set_option maxRecDepth 100000

theorem Try.size42 : (Try.prog.info? 42).map (·.size) = some 7 := by kernel_rfl
/-- An act's cells; nothing special is done. -/
abbrev acells (id tk fr : Nat) (vt : Value) (ah : Nat) (wh : Bool) (mo : Nat) : Array Value := #[.int .u8 0, .int .u8 (id : Int), .int .u8 (tk : Int), .int .u8 (fr : Int), vt, .int .u16 (ah : Int), .bool wh, .int .u8 (mo : Int)]
/-- The trail of a report. -/
def repT (L : Lay) (fr mo : Nat) (ts : List Nat) : List Int := walkL L ((fr % L.secs.length : Nat) : Int) ((fr / 128 : Nat) : Int) ts (1 + mo % 5)
/-- How far. -/
def repA (L : Lay) (fr ah : Nat) : Nat := ah % ((lenL L.secs ((fr % L.secs.length : Nat) : Int)).toNat + 1)
def RetRep (L : Lay) (id fr mo ah : Nat) (wh : Bool) (ts : List Nat) (time : Int) (w : World) (e : Ending) (w' : World) : Prop :=
  ∃ A c, e = .returned (.agg (mcellsR 3 ((id % 8 : Nat) : Int) time (1 - ((fr / 128 : Nat) : Int)) (repA L fr ah : Nat) wh (.slice A (repT L fr mo ts).length c))) ∧ w'.ownsRow w.heap.size 3 1 (.slice A (repT L fr mo ts).length c) (repT L fr mo ts).length (ivals (repT L fr mo ts)) ∧ Below w.heap.size w w'

theorem walkGo_head (L : Lay) (ts : List Nat) (m : Nat) : ∀ f i o e, 0 < o.length → (walkGo L ts m f i o e).getD 0 0 = o.getD 0 0 ∧ 0 < (walkGo L ts m f i o e).length
  | 0, i, o, e, h => ⟨rfl, h⟩
  | f + 1, i, o, e, h => by
    rw [walkGo]
    split
    · exact ⟨rfl, h⟩
    · split
      · exact ⟨rfl, h⟩
      · split
        · exact ⟨rfl, h⟩
        · rename_i x _ _
          have h1 := walkGo_head L ts m f (i + 1) (o ++ [x.1]) (x.1, 1 - x.2) (by simp)
          refine ⟨h1.1.trans ?_, h1.2⟩
          show ((o ++ [x.1])[0]?).getD 0 = (o[0]?).getD 0
          rw [List.getElem?_append_left h]

theorem Row.mess {w : World} {g : Nat} {a0 a1 a2 a3 a4 a5 a6 : Value} (h : Row w g 42 #[a0, a1, a2, a3, a4, a5, a6]) (b0 b1 b2 b3 b4 b5 b6 : Value) :
    Row (((((((w.setCell ⟨g, 0, none⟩ b0).setCell ⟨g, 1, none⟩ b1).setCell ⟨g, 2, none⟩ b2).setCell ⟨g, 3, none⟩ b3).setCell ⟨g, 4, none⟩ b4).setCell ⟨g, 5, none⟩ b5).setCell ⟨g, 6, none⟩ b6) g 42 #[b0, b1, b2, b3, b4, b5, b6] := by
  have h1 : Row _ g 42 #[b0, a1, a2, a3, a4, a5, a6] := h.set 0 b0
  have h2 : Row _ g 42 #[b0, b1, a2, a3, a4, a5, a6] := h1.set 1 b1
  have h3 : Row _ g 42 #[b0, b1, b2, a3, a4, a5, a6] := h2.set 2 b2
  have h4 : Row _ g 42 #[b0, b1, b2, b3, a4, a5, a6] := h3.set 3 b3
  have h5 : Row _ g 42 #[b0, b1, b2, b3, b4, a5, a6] := h4.set 4 b4
  have h6 : Row _ g 42 #[b0, b1, b2, b3, b4, b5, a6] := h5.set 5 b5
  exact h6.set 6 b6
theorem Below.mess {B : Nat} {w w' : World} {g : Nat} (h : Below B w w') (hg : B ≤ g) (b0 b1 b2 b3 b4 b5 b6 : Value) :
    Below B w (((((((w'.setCell ⟨g, 0, none⟩ b0).setCell ⟨g, 1, none⟩ b1).setCell ⟨g, 2, none⟩ b2).setCell ⟨g, 3, none⟩ b3).setCell ⟨g, 4, none⟩ b4).setCell ⟨g, 5, none⟩ b5).setCell ⟨g, 6, none⟩ b6) :=
  ((((((h.setCell (p := ⟨g, 0, none⟩) hg _).setCell (p := ⟨g, 1, none⟩) hg _).setCell (p := ⟨g, 2, none⟩) hg _).setCell (p := ⟨g, 3, none⟩) hg _).setCell (p := ⟨g, 4, none⟩) hg _).setCell (p := ⟨g, 5, none⟩) hg _).setCell (p := ⟨g, 6, none⟩) hg _

theorem own_mess {w : World} {base n : Nat} {e : TypeId} {size : Nat} {v : Value} {xs : List Value} (g : Nat) (h : w.ownsRow base e size v n xs) (hg : v.ownBlock ≠ some g) (b0 b1 b2 b3 b4 b5 b6 : Value) :
    (((((((w.setCell ⟨g, 0, none⟩ b0).setCell ⟨g, 1, none⟩ b1).setCell ⟨g, 2, none⟩ b2).setCell ⟨g, 3, none⟩ b3).setCell ⟨g, 4, none⟩ b4).setCell ⟨g, 5, none⟩ b5).setCell ⟨g, 6, none⟩ b6).ownsRow base e size v n xs :=
  own_far (own_far (own_far (own_far (own_far (own_far (own_far h (a := ⟨g, 0, none⟩) hg b0) (a := ⟨g, 1, none⟩) hg b1) (a := ⟨g, 2, none⟩) hg b2) (a := ⟨g, 3, none⟩) hg b3) (a := ⟨g, 4, none⟩) hg b4) (a := ⟨g, 5, none⟩) hg b5) (a := ⟨g, 6, none⟩) hg b6

set_option maxHeartbeats 16000000 in
theorem refReport_any (w : World) (D : Nat) (v : Value) (L : Lay) (id tk fr ah mo : Nat) (wh : Bool) (A : Option Addr) (c : Nat) (ts : List Nat) (time : Int) (h : LayV w D v L) (hD : D ≤ w.heap.size) (hL : Fits L) (hs : 0 < L.secs.length)
    (hn : ∀ n, n < L.secs.length → 0 < lenL L.secs (n : Int) ∧ lenL L.secs (n : Int) ≤ 1000) (hid : id < 256) (hfr : fr < 256) (hah : ah < 65536) (hmo : mo < 256) (ht : Rd w D (.slice A ts.length c) (bvals ts)) (hby : ∀ x ∈ ts, x < 256) (htl : ts.length ≤ 1000) :
    Calls Try.prog 14 #[v, .agg (acells id tk fr (.slice A ts.length c) ah wh mo), .int .i64 time] w (RetRep L id fr mo ah wh ts time w) := by
  have HV := Lib.hid h
  obtain ⟨A0, k0, c0, A1, k1, c1, A2, k2, c2, A3, k3, c3, A4, k4, c4, t0, t1, t2, t3, t4, rfl, -, hk1, -, -⟩ := h.lens
  have hs100 := hL.s
  obtain ⟨X, hX⟩ : ∃ X, X = fr % L.secs.length := ⟨_, rfl⟩
  obtain ⟨Y, hY⟩ : ∃ Y, Y = fr / 128 := ⟨_, rfl⟩
  obtain ⟨Z, hZ⟩ : ∃ Z, Z = mo % 5 := ⟨_, rfl⟩
  obtain ⟨I8, hI8⟩ : ∃ I, I = id % 8 := ⟨_, rfl⟩
  obtain ⟨T, hT⟩ : ∃ T, T = repT L fr mo ts := ⟨_, rfl⟩
  obtain ⟨H, hH⟩ : ∃ H, H = repA L fr ah := ⟨_, rfl⟩
  have hXl : X < L.secs.length := by rw [hX]; exact Nat.mod_lt _ hs
  obtain ⟨ln, hln⟩ : ∃ l : Nat, lenL L.secs (X : Int) = (l : Int) := ⟨(lenL L.secs (X : Int)).toNat, by have := hn X hXl; omega⟩
  have hlb := hn X hXl
  have hTW : T = walkL L (X : Int) (Y : Int) ts (1 + Z) := by rw [hT, hX, hY, hZ]; rfl
  have hHE : H = ah % (ln + 1) := by rw [hH]; unfold repA; rw [← hX, hln]; rfl
  have HT0 : Hid (0 < T.length ∧ T.getD 0 0 = (X : Int)) := by
    have := walkGo_head L ts (1 + Z) (1 + Z) 0 [(X : Int)] ((X : Int), (Y : Int)) (by simp)
    rw [hTW]; exact ⟨this.2, this.1⟩
  have HTL : Hid (T.length ≤ 5) := by
    have h1 := walkL_len L (X : Int) (Y : Int) ts (1 + Z) (by omega)
    rw [← hTW] at h1
    show _ ≤ _
    omega
  have HWK : Hid (∀ W, Below w.heap.size w W → Calls Try.prog 32 #[.agg #[.slice A0 k0 c0, .slice A1 k1 c1, .slice A2 k2 c2, .slice A3 k3 c3, .slice A4 k4 c4, .int .i64 t0, .int .i64 t1, .int .i64 t2, .int .i64 t3, .int .i64 t4], .int .i64 (X : Int), .int .i64 (Y : Int), .slice A ts.length c, .int .i64 ((1 + Z : Nat) : Int)] W (RetOwn W.heap.size T W)) := fun W hW => by
    rw [hTW]
    exact refWalk_any W D _ L (X : Int) (Y : Int) A c ts (1 + Z) (HV.out.keep hW hD) (Nat.le_trans hD hW.size) hL (ht.below hW hD) hby htl (by omega) (by omega)
  have HLN : Hid (∀ W, Below w.heap.size w W → Calls Try.prog 35 #[.agg #[.slice A0 k0 c0, .slice A1 k1 c1, .slice A2 k2 c2, .slice A3 k3 c3, .slice A4 k4 c4, .int .i64 t0, .int .i64 t1, .int .i64 t2, .int .i64 t3, .int .i64 t4], .int .i64 (X : Int)] W (fun e w' => e = .returned (.int .i64 (ln : Int)) ∧ Below W.heap.size W w')) := fun W hW => by
    rw [← hln]
    exact refLen_any W D _ L (X : Int) (HV.out.keep hW hD) (Nat.le_trans hD hW.size) hL
  have f1 : ((fr : Int)).tmod (k1 : Int) = (X : Int) := by rw [hX, ← hk1, Int.tmod_eq_emod_of_nonneg (by omega)]; omega
  have f2 : ((fr : Int)).tdiv 128 = (Y : Int) := by rw [hY, Int.tdiv_eq_ediv_of_nonneg (by omega)]; omega
  have f3 : ((mo : Int)).tmod 5 = (Z : Int) := by rw [hZ, Int.tmod_eq_emod_of_nonneg (by omega)]; omega
  have f4 : ((id : Int)).tmod 8 = (I8 : Int) := by rw [hI8, Int.tmod_eq_emod_of_nonneg (by omega)]; omega
  have f5 : ((ah : Int)).tmod ((ln : Int) + 1) = (H : Int) := by rw [hHE, Int.tmod_eq_emod_of_nonneg (by omega), show (ln : Int) + 1 = ((ln + 1 : Nat) : Int) by omega]; exact (Int.natCast_emod _ _).symm
  have f1e : (fr : Int) % (k1 : Int) = (X : Int) := by rw [hX, ← hk1]; omega
  have f2e : (fr : Int) / 128 = (Y : Int) := by omega
  have f3e : (mo : Int) % 5 = (Z : Int) := by omega
  have f4e : (id : Int) % 8 = (I8 : Int) := by omega
  have f5e : (ah : Int) % ((ln : Int) + 1) = (H : Int) := by rw [hHE, show (ln : Int) + 1 = ((ln + 1 : Nat) : Int) by omega]; exact (Int.natCast_emod _ _).symm
  have hk1n : ¬ k1 = 0 := by omega
  have hk1i : ¬ (k1 : Int) = 0 := by omega
  have hln0 : ¬ (ln : Int) + 1 = 0 := by omega
  have hH2 : H < 65536 := by have := Nat.mod_le ah (ln + 1); omega
  have HFIN : Hid (RetRep L id fr mo ah wh ts time w = fun e w' => ∃ A c, e = .returned (.agg (mcellsR 3 (I8 : Int) time (1 - (Y : Int)) (H : Int) wh (.slice A T.length c))) ∧ w'.ownsRow w.heap.size 3 1 (.slice A T.length c) T.length (ivals T) ∧ Below w.heap.size w w') := by
    show _ = _
    unfold RetRep
    rw [← hT, ← hH, ← hI8, ← hY]
  obtain ⟨Q, hQ⟩ : ∃ Q, RetRep L id fr mo ah wh ts time w = Q := ⟨_, rfl⟩
  rw [hQ] at HFIN ⊢
  have hY2 : Y < 2 := by omega
  have hZ5 : Z < 5 := by omega
  have hI82 : I8 < 8 := by omega
  have hX2 : X < 100 := by omega
  have hln2 : ln ≤ 1000 := by omega
  clear hX hY hZ hI8 hT hH hTW hHE hQ hlb hln hn hs hs100 hXl h hL hby hk1
  have hw0 : IntKind.i64.wrap (fr : Int) = (fr : Int) := IntWalk.i64_in _ (by omega)
  have hw1 : IntKind.i64.wrap (X : Int) = (X : Int) := IntWalk.i64_in _ (by omega)
  have hw2 : IntKind.i64.wrap (Y : Int) = (Y : Int) := IntWalk.i64_in _ (by omega)
  have hw3 : IntKind.i64.wrap (Z : Int) = (Z : Int) := IntWalk.i64_in _ (by omega)
  have hw4 : IntKind.i64.wrap (1 + (Z : Int)) = 1 + (Z : Int) := IntWalk.i64_in _ (by omega)
  have hw5 : IntKind.i64.wrap (I8 : Int) = (I8 : Int) := IntWalk.i64_in _ (by omega)
  have hw6 : IntKind.i64.wrap (1 - (Y : Int)) = 1 - (Y : Int) := IntWalk.i64_in _ (by omega)
  have hw7 : IntKind.i64.wrap (ah : Int) = (ah : Int) := IntWalk.i64_in _ (by omega)
  have hw8 : IntKind.i64.wrap ((ln : Int) + 1) = (ln : Int) + 1 := IntWalk.i64_in _ (by omega)
  have hw9 : IntKind.i64.wrap (H : Int) = (H : Int) := IntWalk.i64_in _ (by omega)
  obtain ⟨tn, htn⟩ : ∃ n, ts.length = n := ⟨_, rfl⟩
  rw [htn] at HWK htl ⊢
  have hb0 := (below2 w (.cells #[.slice A0 k0 c0, .slice A1 k1 c1, .slice A2 k2 c2, .slice A3 k3 c3, .slice A4 k4 c4, .int .i64 t0, .int .i64 t1, .int .i64 t2, .int .i64 t3, .int .i64 t4] 36) (.cells #[.int .u8 0, .int .u8 (id : Int), .int .u8 (tk : Int), .int .u8 (fr : Int), .slice A tn c, .int .u16 (ah : Int), .bool wh, .int .u8 (mo : Int)] 28)).alloc (by simp; omega) (.cells #[.int .u8 0, .int .i64 0, .int .i64 0, .int .i64 0, .int .i64 0, .bool false, .slice none 0 0] 42)
  have HB := Lib.hid hb0
  have HRL := Lib.hid (((Row.new w 36 #[.slice A0 k0 c0, .slice A1 k1 c1, .slice A2 k2 c2, .slice A3 k3 c3, .slice A4 k4 c4, .int .i64 t0, .int .i64 t1, .int .i64 t2, .int .i64 t3, .int .i64 t4]).alloc (.cells #[.int .u8 0, .int .u8 (id : Int), .int .u8 (tk : Int), .int .u8 (fr : Int), .slice A tn c, .int .u16 (ah : Int), .bool wh, .int .u8 (mo : Int)] 28)).alloc (.cells #[.int .u8 0, .int .i64 0, .int .i64 0, .int .i64 0, .int .i64 0, .bool false, .slice none 0 0] 42))
  have hr1 := (Row.new (w.alloc (.cells #[.slice A0 k0 c0, .slice A1 k1 c1, .slice A2 k2 c2, .slice A3 k3 c3, .slice A4 k4 c4, .int .i64 t0, .int .i64 t1, .int .i64 t2, .int .i64 t3, .int .i64 t4] 36)) 28 #[.int .u8 0, .int .u8 (id : Int), .int .u8 (tk : Int), .int .u8 (fr : Int), .slice A tn c, .int .u16 (ah : Int), .bool wh, .int .u8 (mo : Int)]).alloc (.cells #[.int .u8 0, .int .i64 0, .int .i64 0, .int .i64 0, .int .i64 0, .bool false, .slice none 0 0] 42)
  rw [World.size_alloc] at hr1
  have HRM := Lib.hid hr1
  have hr2 := Row.new ((w.alloc (.cells #[.slice A0 k0 c0, .slice A1 k1 c1, .slice A2 k2 c2, .slice A3 k3 c3, .slice A4 k4 c4, .int .i64 t0, .int .i64 t1, .int .i64 t2, .int .i64 t3, .int .i64 t4] 36)).alloc (.cells #[.int .u8 0, .int .u8 (id : Int), .int .u8 (tk : Int), .int .u8 (fr : Int), .slice A tn c, .int .u16 (ah : Int), .bool wh, .int .u8 (mo : Int)] 28)) 42 #[.int .u8 0, .int .i64 0, .int .i64 0, .int .i64 0, .int .i64 0, .bool false, .slice none 0 0]
  rw [World.size_alloc, World.size_alloc] at hr2
  have HRZ := Lib.hid hr2
  clear hr1 hr2 hb0 htn ht hD
  go_enter Try.func14, Try.ntmps14
  go_upto_region 1 with (fail)
  obtain ⟨n0, hn0⟩ : ∃ n, w.heap.size = n := ⟨_, rfl⟩
  obtain ⟨n1, hn1⟩ : ∃ n, n0 + 1 = n := ⟨_, rfl⟩
  obtain ⟨n2, hn2⟩ : ∃ n, n1 + 1 = n := ⟨_, rfl⟩
  rw [hn0] at HB HRL HRM HRZ HWK HLN HFIN ⊢
  rw [hn1] at HRM HRZ ⊢
  rw [hn2] at HRZ ⊢
  have HN : Hid (w.heap.size = n0 ∧ n0 + 1 = n1 ∧ n1 + 1 = n2) := ⟨hn0, hn1, hn2⟩
  clear hn0 hn1 hn2
  generalize ((w.alloc (.cells #[.slice A0 k0 c0, .slice A1 k1 c1, .slice A2 k2 c2, .slice A3 k3 c3, .slice A4 k4 c4, .int .i64 t0, .int .i64 t1, .int .i64 t2, .int .i64 t3, .int .i64 t4] 36)).alloc (.cells #[.int .u8 0, .int .u8 (id : Int), .int .u8 (tk : Int), .int .u8 (fr : Int), .slice A tn c, .int .u16 (ah : Int), .bool wh, .int .u8 (mo : Int)] 28)).alloc (.cells #[.int .u8 0, .int .i64 0, .int .i64 0, .int .i64 0, .int .i64 0, .bool false, .slice none 0 0] 42) = W0 at *
  have p0 := HRL.out.cell 0; have p1 := HRL.out.cell 1; have p2 := HRL.out.cell 2; have p3 := HRL.out.cell 3; have p4 := HRL.out.cell 4; have p5 := HRL.out.cell 5; have p6 := HRL.out.cell 6; have p7 := HRL.out.cell 7; have p8 := HRL.out.cell 8; have p9 := HRL.out.cell 9
  simp only [List.getElem?_toArray, List.getElem?_cons_zero, List.getElem?_cons_succ] at p0 p1 p2 p3 p4 p5 p6 p7 p8 p9
  have a0 := HRM.out.cell 0; have a1 := HRM.out.cell 1; have a2 := HRM.out.cell 2; have a3 := HRM.out.cell 3; have a4 := HRM.out.cell 4; have a5 := HRM.out.cell 5; have a6 := HRM.out.cell 6; have a7 := HRM.out.cell 7
  simp only [List.getElem?_toArray, List.getElem?_cons_zero, List.getElem?_cons_succ] at a0 a1 a2 a3 a4 a5 a6 a7
  go_upto_region 2 with (fail)
  go_still_tail 16, (by kernel_rfl)
  change wpList _ _ _ _ _ W0.drew
  have HBD : Hid (Below n0 w W0.drew) := HB.out.drew
  have HSD : Hid (n2 < W0.drew.heap.size) := HRZ.out.lt
  have HRLD : Hid (Row W0.drew n0 36 #[.slice A0 k0 c0, .slice A1 k1 c1, .slice A2 k2 c2, .slice A3 k3 c3, .slice A4 k4 c4, .int .i64 t0, .int .i64 t1, .int .i64 t2, .int .i64 t3, .int .i64 t4]) := HRL.out
  have HRMD : Hid (Row W0.drew n1 28 #[.int .u8 0, .int .u8 (id : Int), .int .u8 (tk : Int), .int .u8 (fr : Int), .slice A tn c, .int .u16 (ah : Int), .bool wh, .int .u8 (mo : Int)]) := HRM.out
  have HRZD : Hid (Row W0.drew n2 42 #[.int .u8 0, .int .i64 0, .int .i64 0, .int .i64 0, .int .i64 0, .bool false, .slice none 0 0]) := HRZ.out
  clear p0 p1 p2 p3 p4 p5 p6 p7 p8 p9 a0 a1 a2 a3 a4 a5 a6 a7 HB HRL HRM HRZ
  generalize W0.drew = W1 at *
  go_wp2_with fail
  rw [show (1 : Int) + (Z : Int) = ((1 + Z : Nat) : Int) by omega]
  refine (HWK.out W1 HBD.out).mono ?_; rintro e w2 ⟨v2, rfl, ho2, hb2⟩
  obtain ⟨A7, c7, hv7⟩ := own_slice ho2
  subst hv7
  have HO2 := Lib.hid (own_base ho2 (show n0 ≤ W1.heap.size by have := HN.out; have := HSD.out; omega))
  have HB2 : Hid (Below n0 w w2) := HBD.out.trans (hb2.mono (by have := HN.out; have := HSD.out; omega))
  have HRL2 := Lib.hid (Below.row hb2 HRLD.out HRLD.out.lt)
  have HRM2 := Lib.hid (Below.row hb2 HRMD.out HRMD.out.lt)
  have HRZ2 := Lib.hid (Below.row hb2 HRZD.out HRZD.out.lt)
  have HRD := Lib.hid (Rd.of_own ho2)
  have HOB : Hid (∀ g, (Value.slice A7 T.length c7).ownBlock = some g → n2 < g) := fun g hg => by have := (ho2.lt g hg).1; have := HSD.out; omega
  clear ho2 hb2 HBD HRLD HRMD HRZD HWK HSD
  obtain ⟨wl, hwl⟩ : ∃ n, T.length = n := ⟨_, rfl⟩
  have HWL := Lib.hid hwl
  rw [hwl] at HO2 HRD HT0 HTL HOB ⊢
  have hwl0 : 0 < wl := HT0.out.1
  have hwl0i : (0 : Int) < (wl : Int) := by omega
  have hT0 : T[0]? = some (X : Int) := by
    have h1 := HT0.out.2
    rw [List.getD, List.getElem?_eq_getElem (by omega)] at h1
    rw [List.getElem?_eq_getElem (by omega)]
    exact congrArg some h1
  obtain ⟨b, o, hA, hbB, q0⟩ := HRD.out.at (i := 0) (u := .int .i64 (X : Int)) (by simp [ivals, hT0])
  subst hA
  rw [Nat.add_zero] at q0
  have HBX : Hid (b < w2.heap.size) := hbB
  clear hT0 hwl hbB HRD
  have HBD : Hid (Below n0 w w2.drew) := HB2.out.drew
  have HRLD : Hid (Row w2.drew n0 36 #[.slice A0 k0 c0, .slice A1 k1 c1, .slice A2 k2 c2, .slice A3 k3 c3, .slice A4 k4 c4, .int .i64 t0, .int .i64 t1, .int .i64 t2, .int .i64 t3, .int .i64 t4]) := HRL2.out
  have HRMD : Hid (Row w2.drew n1 28 #[.int .u8 0, .int .u8 (id : Int), .int .u8 (tk : Int), .int .u8 (fr : Int), .slice A tn c, .int .u16 (ah : Int), .bool wh, .int .u8 (mo : Int)]) := HRM2.out
  have q0' : w2.drew.cell? ⟨b, o, none⟩ = some (.int .i64 (X : Int)) := q0
  have HSZ2 : Hid (n2 < w2.heap.size ∧ n0 < n1 ∧ n1 < n2) := ⟨HRZ2.out.lt, by have := HN.out; omega, by have := HN.out; omega⟩
  go_upto_region 3 with (fail)
  go_cut [9] (fun v wx => ∃ nx, v = .pointer (some ⟨nx, 0, none⟩) ∧ Hid (Row wx nx 42 #[.int .u8 3, .int .i64 (I8 : Int), .int .i64 time, .int .i64 (1 - (Y : Int)), .int .i64 (H : Int), .bool wh, .slice (some ⟨b, o, none⟩) wl c7]) ∧ Hid (w2.heap.size ≤ nx) ∧ Hid (Below w2.heap.size w2 wx))
  case first =>
    rename_i J K' hJ hK
    have HBA : Hid (Below w2.heap.size w2 (w2.alloc (.cells #[.int .u8 0, .int .i64 0, .int .i64 0, .int .i64 0, .int .i64 0, .bool false, .slice none 0 0] 42)).drew) := ((Below.refl _ _).alloc (Nat.le_refl _) _).drew
    have HRNA : Hid (Row (w2.alloc (.cells #[.int .u8 0, .int .i64 0, .int .i64 0, .int .i64 0, .int .i64 0, .bool false, .slice none 0 0] 42)).drew w2.heap.size 42 #[.int .u8 0, .int .i64 0, .int .i64 0, .int .i64 0, .int .i64 0, .bool false, .slice none 0 0]) := Row.new w2 42 #[.int .u8 0, .int .i64 0, .int .i64 0, .int .i64 0, .int .i64 0, .bool false, .slice none 0 0]
    have HSS : Hid (∀ W, Below w2.heap.size w2 W → W.cell? ⟨n0, 0, none⟩ = some (.slice A0 k0 c0) ∧ W.cell? ⟨n0, 1, none⟩ = some (.slice A1 k1 c1) ∧ W.cell? ⟨n0, 2, none⟩ = some (.slice A2 k2 c2) ∧ W.cell? ⟨n0, 3, none⟩ = some (.slice A3 k3 c3) ∧ W.cell? ⟨n0, 4, none⟩ = some (.slice A4 k4 c4) ∧ W.cell? ⟨n0, 5, none⟩ = some (.int .i64 t0) ∧ W.cell? ⟨n0, 6, none⟩ = some (.int .i64 t1) ∧ W.cell? ⟨n0, 7, none⟩ = some (.int .i64 t2) ∧ W.cell? ⟨n0, 8, none⟩ = some (.int .i64 t3) ∧ W.cell? ⟨n0, 9, none⟩ = some (.int .i64 t4) ∧ W.cell? ⟨n1, 1, none⟩ = some (.int .u8 (id : Int)) ∧ W.cell? ⟨n1, 5, none⟩ = some (.int .u16 (ah : Int)) ∧ W.cell? ⟨n1, 6, none⟩ = some (.bool wh) ∧ W.cell? ⟨b, o, none⟩ = some (.int .i64 (X : Int))) := fun W hW => ⟨(hW.cell (p := ⟨n0, 0, none⟩) (by have := HSZ2.out; show n0 < _; omega)).trans (HRL2.out.cell 0), (hW.cell (p := ⟨n0, 1, none⟩) (by have := HSZ2.out; show n0 < _; omega)).trans (HRL2.out.cell 1), (hW.cell (p := ⟨n0, 2, none⟩) (by have := HSZ2.out; show n0 < _; omega)).trans (HRL2.out.cell 2), (hW.cell (p := ⟨n0, 3, none⟩) (by have := HSZ2.out; show n0 < _; omega)).trans (HRL2.out.cell 3), (hW.cell (p := ⟨n0, 4, none⟩) (by have := HSZ2.out; show n0 < _; omega)).trans (HRL2.out.cell 4), (hW.cell (p := ⟨n0, 5, none⟩) (by have := HSZ2.out; show n0 < _; omega)).trans (HRL2.out.cell 5), (hW.cell (p := ⟨n0, 6, none⟩) (by have := HSZ2.out; show n0 < _; omega)).trans (HRL2.out.cell 6), (hW.cell (p := ⟨n0, 7, none⟩) (by have := HSZ2.out; show n0 < _; omega)).trans (HRL2.out.cell 7), (hW.cell (p := ⟨n0, 8, none⟩) (by have := HSZ2.out; show n0 < _; omega)).trans (HRL2.out.cell 8), (hW.cell (p := ⟨n0, 9, none⟩) (by have := HSZ2.out; show n0 < _; omega)).trans (HRL2.out.cell 9), (hW.cell (p := ⟨n1, 1, none⟩) (by have := HSZ2.out; show n1 < _; omega)).trans (HRM2.out.cell 1), (hW.cell (p := ⟨n1, 5, none⟩) (by have := HSZ2.out; show n1 < _; omega)).trans (HRM2.out.cell 5), (hW.cell (p := ⟨n1, 6, none⟩) (by have := HSZ2.out; show n1 < _; omega)).trans (HRM2.out.cell 6), (hW.cell (p := ⟨b, o, none⟩) HBX.out).trans q0⟩
    have s0 := HSS.out w2.drew (Below.refl _ _).drew
    have sA := HSS.out _ HBA.out
    have HBB : Hid (Below n0 w (w2.alloc (.cells #[.int .u8 0, .int .i64 0, .int .i64 0, .int .i64 0, .int .i64 0, .bool false, .slice none 0 0] 42)).drew) := HB2.out.trans (HBA.out.mono (by have := HSZ2.out; omega))
    obtain ⟨r0, r1, r2, r3, r4, r5, r6, r7, r8, r9, r10, r11, r12, r13⟩ := (show _ from s0)
    go_region_held3 (fun w' => w'.cell? ⟨n0, 0, none⟩ = some (.slice A0 k0 c0) ∧ w'.cell? ⟨n0, 1, none⟩ = some (.slice A1 k1 c1) ∧ w'.cell? ⟨n0, 2, none⟩ = some (.slice A2 k2 c2) ∧ w'.cell? ⟨n0, 3, none⟩ = some (.slice A3 k3 c3) ∧ w'.cell? ⟨n0, 4, none⟩ = some (.slice A4 k4 c4) ∧ w'.cell? ⟨n0, 5, none⟩ = some (.int .i64 t0) ∧ w'.cell? ⟨n0, 6, none⟩ = some (.int .i64 t1) ∧ w'.cell? ⟨n0, 7, none⟩ = some (.int .i64 t2) ∧ w'.cell? ⟨n0, 8, none⟩ = some (.int .i64 t3) ∧ w'.cell? ⟨n0, 9, none⟩ = some (.int .i64 t4) ∧ w'.cell? ⟨n1, 1, none⟩ = some (.int .u8 (id : Int)) ∧ w'.cell? ⟨n1, 5, none⟩ = some (.int .u16 (ah : Int)) ∧ w'.cell? ⟨n1, 6, none⟩ = some (.bool wh) ∧ w'.cell? ⟨b, o, none⟩ = some (.int .i64 (X : Int))) (first | (with_reducible assumption) | exact s0 | exact sA | go_keep) (first | (go_at_call 35; (with_reducible refine (HLN.out w2.drew HBD.out).mono ?_); rintro e w5 ⟨rfl, hb5⟩; have HB5 : Hid (Below w2.heap.size w2 w5) := (show Below w2.heap.size w2 w2.drew from (Below.refl _ _).drew).trans hb5; have d5 := HSS.out w5 HB5.out; have HB6 : Hid (Below w2.heap.size w2 (w5.alloc (.cells #[.int .u8 0, .int .i64 0, .int .i64 0, .int .i64 0, .int .i64 0, .bool false, .slice none 0 0] 42))) := HB5.out.alloc HB5.out.size _; have d6 := HSS.out _ HB6.out; have HB7 : Hid (Below w2.heap.size w2 (w5.alloc (.cells #[.int .u8 3, .int .i64 (I8 : Int), .int .i64 time, .int .i64 (1 - (Y : Int)), .int .i64 (H : Int), .bool wh, .slice (some ⟨b, o, none⟩) wl c7] 42))) := HB5.out.alloc HB5.out.size _; have d7 := HSS.out _ HB7.out; have HR7 := Lib.hid (Row.new w5 42 #[.int .u8 3, .int .i64 (I8 : Int), .int .i64 time, .int .i64 (1 - (Y : Int)), .int .i64 (H : Int), .bool wh, .slice (some ⟨b, o, none⟩) wl c7]); have HNX7 := Lib.hid HB5.out.size; clear hb5) | (go_at_call 35; (with_reducible refine (HLN.out _ HBB.out).mono ?_); rintro e w5 ⟨rfl, hb5⟩; have HB5 : Hid (Below w2.heap.size w2 w5) := HBA.out.trans (hb5.mono HBA.out.size); have d5 := HSS.out w5 HB5.out; have hr5 := Below.row hb5 HRNA.out HRNA.out.lt; have z0 := hr5.cell 0; have y0 := hr5.frozen 0; have z1 := hr5.cell 1; have y1 := hr5.frozen 1; have z2 := hr5.cell 2; have y2 := hr5.frozen 2; have z3 := hr5.cell 3; have y3 := hr5.frozen 3; have z4 := hr5.cell 4; have y4 := hr5.frozen 4; have z5 := hr5.cell 5; have y5 := hr5.frozen 5; have z6 := hr5.cell 6; have y6 := hr5.frozen 6; simp only [List.getElem?_toArray, List.getElem?_cons_zero, List.getElem?_cons_succ] at z0 z1 z2 z3 z4 z5 z6; have HR7 : Hid (Row (((((((w5.setCell ⟨w2.heap.size, 0, none⟩ (.int .u8 3)).setCell ⟨w2.heap.size, 1, none⟩ (.int .i64 (I8 : Int))).setCell ⟨w2.heap.size, 2, none⟩ (.int .i64 time)).setCell ⟨w2.heap.size, 3, none⟩ (.int .i64 (1 - (Y : Int)))).setCell ⟨w2.heap.size, 4, none⟩ (.int .i64 (H : Int))).setCell ⟨w2.heap.size, 5, none⟩ (.bool wh)).setCell ⟨w2.heap.size, 6, none⟩ (.slice (some ⟨b, o, none⟩) wl c7)) w2.heap.size 42 #[.int .u8 3, .int .i64 (I8 : Int), .int .i64 time, .int .i64 (1 - (Y : Int)), .int .i64 (H : Int), .bool wh, .slice (some ⟨b, o, none⟩) wl c7]) := hr5.mess (.int .u8 3) (.int .i64 (I8 : Int)) (.int .i64 time) (.int .i64 (1 - (Y : Int))) (.int .i64 (H : Int)) (.bool wh) (.slice (some ⟨b, o, none⟩) wl c7); have HB7 : Hid (Below w2.heap.size w2 (((((((w5.setCell ⟨w2.heap.size, 0, none⟩ (.int .u8 3)).setCell ⟨w2.heap.size, 1, none⟩ (.int .i64 (I8 : Int))).setCell ⟨w2.heap.size, 2, none⟩ (.int .i64 time)).setCell ⟨w2.heap.size, 3, none⟩ (.int .i64 (1 - (Y : Int)))).setCell ⟨w2.heap.size, 4, none⟩ (.int .i64 (H : Int))).setCell ⟨w2.heap.size, 5, none⟩ (.bool wh)).setCell ⟨w2.heap.size, 6, none⟩ (.slice (some ⟨b, o, none⟩) wl c7))) := Below.mess HB5.out (Nat.le_refl _) (.int .u8 3) (.int .i64 (I8 : Int)) (.int .i64 time) (.int .i64 (1 - (Y : Int))) (.int .i64 (H : Int)) (.bool wh) (.slice (some ⟨b, o, none⟩) wl c7); have d7 := HSS.out _ HB7.out; have HNX7 : Hid (w2.heap.size ≤ w2.heap.size) := Nat.le_refl _; clear hb5 hr5))
    all_goals (refine hK _ _ (Met.intro (hJ _ _ ?_)); (repeat apply Exists.intro); refine ⟨?rel, rfl⟩; case rel => exact ⟨_, rfl, HR7, HNX7, HB7⟩)
  case rest =>
    obtain ⟨nx, rfl, HRX, HNX, HBX2⟩ := hcut
    have HRMC := Lib.hid (Below.row HBX2.out HRM2.out HRM2.out.lt)
    have HRZC := Lib.hid (Below.row HBX2.out HRZ2.out HRZ2.out.lt)
    have HOC := Lib.hid (own_below HO2.out HBX2.out)
    have HBC : Hid (Below n0 w wc) := HB2.out.trans (HBX2.out.mono (by have := HSZ2.out; omega))
    have HNX2 : Hid (n2 < nx ∧ n0 ≤ n2) := ⟨by have := HSZ2.out; have := HNX.out; omega, by have := HSZ2.out; omega⟩
    have a0 := HRMC.out.cell 0
    have x0 := HRX.out.cell 0; have x1 := HRX.out.cell 1; have x2 := HRX.out.cell 2; have x3 := HRX.out.cell 3; have x4 := HRX.out.cell 4; have x5 := HRX.out.cell 5; have x6 := HRX.out.cell 6
    have z0 := HRZC.out.cell 0; have z1 := HRZC.out.cell 1; have z2 := HRZC.out.cell 2; have z3 := HRZC.out.cell 3; have z4 := HRZC.out.cell 4; have z5 := HRZC.out.cell 5; have z6 := HRZC.out.cell 6
    have y0 := HRZC.out.frozen 0; have y1 := HRZC.out.frozen 1; have y2 := HRZC.out.frozen 2; have y3 := HRZC.out.frozen 3; have y4 := HRZC.out.frozen 4; have y5 := HRZC.out.frozen 5; have y6 := HRZC.out.frozen 6
    simp only [List.getElem?_toArray, List.getElem?_cons_zero, List.getElem?_cons_succ] at a0 x0 x1 x2 x3 x4 x5 x6 z0 z1 z2 z3 z4 z5 z6
    have HRES := Lib.hid (HRZC.out.mess (.int .u8 3) (.int .i64 (I8 : Int)) (.int .i64 time) (.int .i64 (1 - (Y : Int))) (.int .i64 (H : Int)) (.bool wh) (.slice (some ⟨b, o, none⟩) wl c7))
    have HBES := Lib.hid (Below.mess (g := n2) HBC.out HNX2.out.2 (.int .u8 3) (.int .i64 (I8 : Int)) (.int .i64 time) (.int .i64 (1 - (Y : Int))) (.int .i64 (H : Int)) (.bool wh) (.slice (some ⟨b, o, none⟩) wl c7))
    have HOES := Lib.hid (own_mess n2 HOC.out (fun e => by have := HOB.out _ e; omega) (.int .u8 3) (.int .i64 (I8 : Int)) (.int .i64 time) (.int .i64 (1 - (Y : Int))) (.int .i64 (H : Int)) (.bool wh) (.slice (some ⟨b, o, none⟩) wl c7))
    clear HRL2 HRM2 HRZ2 HB2 HRMC HRX HRZC HOC HBC HBX2 HLN q0 q0' HBD HRLD HRMD
    go_wp2_with fail
    refine bodyPost_ret (results_cell_row rfl _ _ n2 42 #[.int .u8 3, .int .i64 (I8 : Int), .int .i64 time, .int .i64 (1 - (Y : Int)), .int .i64 (H : Int), .bool wh, .slice (some ⟨b, o, none⟩) wl c7] (0, 0) _ rfl HRES.out Try.underlying42 rfl Try.size42) rfl ?_
    rw [HFIN.out]
    rw [HWL.out]
    exact ⟨_, _, rfl, HOES.out, HBES.out⟩

end Go.Proofs.Ytifcgkpannlnnaa
