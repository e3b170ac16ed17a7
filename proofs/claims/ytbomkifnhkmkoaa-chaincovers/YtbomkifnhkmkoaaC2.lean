/- Contracts: small, of: a train out of a spot. -/
import Derived.Test.YtbomkifnhkmkoaaC1
import Derived.Deep.RegionHeld3
import Derived.Deep.Grids
import Derived.WideShapes
namespace Go.Proofs.Ytbomkifnhkmkoaa
open Go.RowKit Fl
set_option maxRecDepth 100000

theorem Row.six {w : World} {g : Nat} {t : TypeId} {a0 a1 a2 a3 a4 a5 : Value} (h : Row w g t #[a0, a1, a2, a3, a4, a5]) (b0 b1 b2 b3 b4 b5 : Value) :
    Row ((((((w.setCell ⟨g, 0, none⟩ b0).setCell ⟨g, 1, none⟩ b1).setCell ⟨g, 2, none⟩ b2).setCell ⟨g, 3, none⟩ b3).setCell ⟨g, 4, none⟩ b4).setCell ⟨g, 5, none⟩ b5) g t #[b0, b1, b2, b3, b4, b5] := by
  have h0 : Row _ g t #[b0, a1, a2, a3, a4, a5] := h.set 0 b0
  have h1 : Row _ g t #[b0, b1, a2, a3, a4, a5] := h0.set 1 b1
  have h2 : Row _ g t #[b0, b1, b2, a3, a4, a5] := h1.set 2 b2
  have h3 : Row _ g t #[b0, b1, b2, b3, a4, a5] := h2.set 3 b3
  have h4 : Row _ g t #[b0, b1, b2, b3, b4, a5] := h3.set 4 b4
  exact h4.set 5 b5
theorem KeptL.six {S : List Nat} {w w' : World} {g : Nat} (h : KeptL S w w') (hg : g ∈ S) (b0 b1 b2 b3 b4 b5 : Value) : KeptL S w ((((((w'.setCell ⟨g, 0, none⟩ b0).setCell ⟨g, 1, none⟩ b1).setCell ⟨g, 2, none⟩ b2).setCell ⟨g, 3, none⟩ b3).setCell ⟨g, 4, none⟩ b4).setCell ⟨g, 5, none⟩ b5) :=
  ((((((h.set (p := ⟨g, 0, none⟩) hg b0).set (p := ⟨g, 1, none⟩) hg b1).set (p := ⟨g, 2, none⟩) hg b2).set (p := ⟨g, 3, none⟩) hg b3).set (p := ⟨g, 4, none⟩) hg b4).set (p := ⟨g, 5, none⟩) hg b5)

theorem Row.ten {w : World} {g : Nat} {t : TypeId} {a0 a1 a2 a3 a4 a5 a6 a7 a8 a9 : Value} (h : Row w g t #[a0, a1, a2, a3, a4, a5, a6, a7, a8, a9]) (b0 b1 b2 b3 b4 b5 b6 b7 b8 b9 : Value) :
    Row ((((((((((w.setCell ⟨g, 0, none⟩ b0).setCell ⟨g, 1, none⟩ b1).setCell ⟨g, 2, none⟩ b2).setCell ⟨g, 3, none⟩ b3).setCell ⟨g, 4, none⟩ b4).setCell ⟨g, 5, none⟩ b5).setCell ⟨g, 6, none⟩ b6).setCell ⟨g, 7, none⟩ b7).setCell ⟨g, 8, none⟩ b8).setCell ⟨g, 9, none⟩ b9) g t #[b0, b1, b2, b3, b4, b5, b6, b7, b8, b9] := by
  have h0 : Row _ g t #[b0, a1, a2, a3, a4, a5, a6, a7, a8, a9] := h.set 0 b0
  have h1 : Row _ g t #[b0, b1, a2, a3, a4, a5, a6, a7, a8, a9] := h0.set 1 b1
  have h2 : Row _ g t #[b0, b1, b2, a3, a4, a5, a6, a7, a8, a9] := h1.set 2 b2
  have h3 : Row _ g t #[b0, b1, b2, b3, a4, a5, a6, a7, a8, a9] := h2.set 3 b3
  have h4 : Row _ g t #[b0, b1, b2, b3, b4, a5, a6, a7, a8, a9] := h3.set 4 b4
  have h5 : Row _ g t #[b0, b1, b2, b3, b4, b5, a6, a7, a8, a9] := h4.set 5 b5
  have h6 : Row _ g t #[b0, b1, b2, b3, b4, b5, b6, a7, a8, a9] := h5.set 6 b6
  have h7 : Row _ g t #[b0, b1, b2, b3, b4, b5, b6, b7, a8, a9] := h6.set 7 b7
  have h8 : Row _ g t #[b0, b1, b2, b3, b4, b5, b6, b7, b8, a9] := h7.set 8 b8
  exact h8.set 9 b9
theorem KeptL.ten {S : List Nat} {w w' : World} {g : Nat} (h : KeptL S w w') (hg : g ∈ S) (b0 b1 b2 b3 b4 b5 b6 b7 b8 b9 : Value) : KeptL S w ((((((((((w'.setCell ⟨g, 0, none⟩ b0).setCell ⟨g, 1, none⟩ b1).setCell ⟨g, 2, none⟩ b2).setCell ⟨g, 3, none⟩ b3).setCell ⟨g, 4, none⟩ b4).setCell ⟨g, 5, none⟩ b5).setCell ⟨g, 6, none⟩ b6).setCell ⟨g, 7, none⟩ b7).setCell ⟨g, 8, none⟩ b8).setCell ⟨g, 9, none⟩ b9) :=
  ((((((((((h.set (p := ⟨g, 0, none⟩) hg b0).set (p := ⟨g, 1, none⟩) hg b1).set (p := ⟨g, 2, none⟩) hg b2).set (p := ⟨g, 3, none⟩) hg b3).set (p := ⟨g, 4, none⟩) hg b4).set (p := ⟨g, 5, none⟩) hg b5).set (p := ⟨g, 6, none⟩) hg b6).set (p := ⟨g, 7, none⟩) hg b7).set (p := ⟨g, 8, none⟩) hg b8).set (p := ⟨g, 9, none⟩) hg b9)

theorem five_up {W W' : World} {vN vS vP vQ vR : Value} {L : Lay} (h : Five W vN vS vP vQ vR L) (hb : Below W.heap.size W W') : Five W' vN vS vP vQ vR L :=
  h.kept (KeptL.of_below (S := []) hb) (by intro t _ k hk; simp at hk)
theorem IsLay.up {W W' : World} {v : Value} {L : Lay} (h : IsLay W v L) (hb : Below W.heap.size W W') : IsLay W' v L := by
  obtain ⟨vN, vS, vP, vQ, vR, e, hF⟩ := h; exact ⟨vN, vS, vP, vQ, vR, e, five_up hF hb⟩

/-- What the walk keeps: a spot, the three results, nothing else. -/
structure OSt (w : World) (n1 n2 n3 n4 : Nat) (sp : Array Value) (W : World) : Prop where
  bel : Below w.heap.size w W
  r1 : Row W n1 29 sp
  r2 : Row W n2 37 #[.slice none 0 0, .slice none 0 0, .slice none 0 0, .slice none 0 0, .slice none 0 0, .int .i64 0, .int .i64 0, .int .i64 0, .int .i64 0, .int .i64 0]
  r3 : Row W n3 40 (tcells 0 0 0 0 0 (.slice none 0 0))
  r4 : Row W n4 41 (tcells 0 0 0 0 0 (.slice none 0 0))
theorem OSt.call {w : World} {n1 n2 n3 n4 : Nat} {sp : Array Value} {W W' : World} (h : OSt w n1 n2 n3 n4 sp W) (hb : Below W.heap.size W W') : OSt w n1 n2 n3 n4 sp W' :=
  ⟨h.bel.trans (hb.mono h.bel.size), Below.row hb h.r1 h.r1.lt, Below.row hb h.r2 h.r2.lt, Below.row hb h.r3 h.r3.lt, Below.row hb h.r4 h.r4.lt⟩

/-- The trail of a spot, and how far it is from its end. -/
def repT (L : Lay) (fr mo : Nat) (ts : List Nat) : List Int := walkL L ((fr % L.secs.length : Nat) : Int) ((fr / 128 : Nat) : Int) ts (1 + mo % 5)
def repA (L : Lay) (fr ah : Nat) : Nat := ah % ((lenL L.secs ((fr % L.secs.length : Nat) : Int)).toNat + 1)

set_option maxHeartbeats 4000000 in
theorem smallX_any (w : World) (d : Dr) (vr : Value) (x : Sp) (At : Option Addr) (ct : Nat) (Ar : Option Addr) (cr : Nat) (h : BRows w w.heap.size vr d.routes) (hl : d.routes.length ≤ 9223372036854775807) (hrl : ∀ r ∈ d.routes, r.length ≤ 9223372036854775807) :
    Calls Try.prog 10 #[drV d vr, spV x (.slice At x.ts.length ct) (.slice Ar x.ri.length cr)] w (RetL (smallX d x) w) := by
  have HB0 := Lib.hid (below2 w (.cells #[.int .u8 (d.form : Int), .int .u8 (d.len : Int), .int .u8 (d.speed : Int), .int .u16 (d.mute : Int), .int .u16 (d.wait : Int), .int .u8 (d.cancel : Int), .int .u8 (d.stay : Int), .int .u8 (d.join : Int), vr] 25) (.cells #[.int .u8 (x.fr : Int), .int .u8 (x.lo : Int), .slice At x.ts.length ct, .int .u16 (x.ah : Int), .int .u16 (x.he : Int), .int .u16 (x.tk : Int), .int .u16 (x.sp : Int), .slice Ar x.ri.length cr] 29))
  obtain ⟨Ad, kd, cd, hvr⟩ : ∃ A k c, vr = .slice A k c := by obtain ⟨vs, ⟨A, c, e, _⟩, _⟩ := h; exact ⟨A, _, c, e⟩
  subst hvr
  have HS : Hid (∀ W, Below w.heap.size w W → Calls Try.prog 25 #[drV d (.slice Ad kd cd)] W (RetL (small d) W)) := fun W hW => small_any W d _ (h.up hW) hl hrl
  clear h hl hrl
  unfold smallX
  generalize small d = sd at *
  unfold drV at HS
  unfold drV spV
  generalize x.ts.length = tn at *
  generalize x.ri.length = rn at *
  have HRD := Lib.hid ((Row.new w 25 #[.int .u8 (d.form : Int), .int .u8 (d.len : Int), .int .u8 (d.speed : Int), .int .u16 (d.mute : Int), .int .u16 (d.wait : Int), .int .u8 (d.cancel : Int), .int .u8 (d.stay : Int), .int .u8 (d.join : Int), .slice Ad kd cd]).alloc (.cells #[.int .u8 (x.fr : Int), .int .u8 (x.lo : Int), .slice At tn ct, .int .u16 (x.ah : Int), .int .u16 (x.he : Int), .int .u16 (x.tk : Int), .int .u16 (x.sp : Int), .slice Ar rn cr] 29))
  have hr1 := Row.new (w.alloc (.cells #[.int .u8 (d.form : Int), .int .u8 (d.len : Int), .int .u8 (d.speed : Int), .int .u16 (d.mute : Int), .int .u16 (d.wait : Int), .int .u8 (d.cancel : Int), .int .u8 (d.stay : Int), .int .u8 (d.join : Int), .slice Ad kd cd] 25)) 29 #[.int .u8 (x.fr : Int), .int .u8 (x.lo : Int), .slice At tn ct, .int .u16 (x.ah : Int), .int .u16 (x.he : Int), .int .u16 (x.tk : Int), .int .u16 (x.sp : Int), .slice Ar rn cr]
  rw [World.size_alloc] at hr1
  have HRX := Lib.hid hr1
  clear hr1
  cases sd with
  | false =>
    go_enter Try.func10, Try.ntmps10
    go_upto_region 1 with (fail)
    obtain ⟨n0, hn0⟩ : ∃ n, n = w.heap.size := ⟨_, rfl⟩
    rw [← hn0] at HRD HRX HB0 HS ⊢
    have HN := Lib.hid hn0
    clear hn0
    generalize (w.alloc (.cells #[.int .u8 (d.form : Int), .int .u8 (d.len : Int), .int .u8 (d.speed : Int), .int .u16 (d.mute : Int), .int .u16 (d.wait : Int), .int .u8 (d.cancel : Int), .int .u8 (d.stay : Int), .int .u8 (d.join : Int), .slice Ad kd cd] 25)).alloc (.cells #[.int .u8 (x.fr : Int), .int .u8 (x.lo : Int), .slice At tn ct, .int .u16 (x.ah : Int), .int .u16 (x.he : Int), .int .u16 (x.tk : Int), .int .u16 (x.sp : Int), .slice Ar rn cr] 29) = W0 at *
    have f0 := HRD.out.cell 0; have f1 := HRD.out.cell 1; have f2 := HRD.out.cell 2; have f3 := HRD.out.cell 3; have f4 := HRD.out.cell 4; have f5 := HRD.out.cell 5; have f6 := HRD.out.cell 6; have f7 := HRD.out.cell 7; have f8 := HRD.out.cell 8
    simp only [List.getElem?_toArray, List.getElem?_cons_zero, List.getElem?_cons_succ] at f0 f1 f2 f3 f4 f5 f6 f7 f8
    go_wp2_with fail
    refine (HS.out W0 HB0.out).mono ?_; rintro e w1 ⟨rfl, hb1⟩
    have HB1 : Hid (Below n0 w w1) := HB0.out.trans (hb1.mono (by have := HB0.out.size; have := HN.out; omega))
    clear hb1
    go_wp2_with fail
    go_ret
    exact ⟨rfl, by rw [← HN.out]; exact HB1.out⟩
  | true =>
    simp only [Bool.true_and]
    obtain ⟨bt, hbt⟩ : ∃ b, (decide (tn ≤ 12) && decide (rn ≤ 20)) = b := ⟨_, rfl⟩
    rw [hbt]
    have HBT := Lib.hid hbt
    clear hbt
    go_enter Try.func10, Try.ntmps10
    go_upto_region 1 with (fail)
    obtain ⟨n0, hn0⟩ : ∃ n, n = w.heap.size := ⟨_, rfl⟩
    obtain ⟨n1, hn1⟩ : ∃ n, n = n0 + 1 := ⟨_, rfl⟩
    rw [← hn0] at HRD HRX HB0 HS ⊢
    rw [← hn1] at HRX ⊢
    have HN := Lib.hid hn0
    clear hn0 hn1
    generalize (w.alloc (.cells #[.int .u8 (d.form : Int), .int .u8 (d.len : Int), .int .u8 (d.speed : Int), .int .u16 (d.mute : Int), .int .u16 (d.wait : Int), .int .u8 (d.cancel : Int), .int .u8 (d.stay : Int), .int .u8 (d.join : Int), .slice Ad kd cd] 25)).alloc (.cells #[.int .u8 (x.fr : Int), .int .u8 (x.lo : Int), .slice At tn ct, .int .u16 (x.ah : Int), .int .u16 (x.he : Int), .int .u16 (x.tk : Int), .int .u16 (x.sp : Int), .slice Ar rn cr] 29) = W0 at *
    have f0 := HRD.out.cell 0; have f1 := HRD.out.cell 1; have f2 := HRD.out.cell 2; have f3 := HRD.out.cell 3; have f4 := HRD.out.cell 4; have f5 := HRD.out.cell 5; have f6 := HRD.out.cell 6; have f7 := HRD.out.cell 7; have f8 := HRD.out.cell 8
    simp only [List.getElem?_toArray, List.getElem?_cons_zero, List.getElem?_cons_succ] at f0 f1 f2 f3 f4 f5 f6 f7 f8
    go_wp2_with fail
    refine (HS.out W0 HB0.out).mono ?_; rintro e w1 ⟨rfl, hb1⟩
    have HB1 : Hid (Below n0 w w1) := HB0.out.trans (hb1.mono (by have := HB0.out.size; have := HN.out; omega))
    have HX1 := Lib.hid (Below.row hb1 HRX.out HRX.out.lt)
    clear hb1 f0 f1 f2 f3 f4 f5 f6 f7 f8 HB0 HRD HRX HS
    have x2 := HX1.out.cell 2; have x7 := HX1.out.cell 7
    simp only [List.getElem?_toArray, List.getElem?_cons_zero, List.getElem?_cons_succ] at x2 x7
    by_cases h1 : tn ≤ 12
    · have h1i : (tn : Int) ≤ 12 := by omega
      have h1d : Hid (decide (rn ≤ 20) = bt) := by show _ = _; rw [← HBT.out, decide_eq_true h1]; rfl
      by_cases h2 : rn ≤ 20
      · have h2i : (rn : Int) ≤ 20 := by omega
        have HQ : Hid (true = bt) := by show _ = _; rw [← h1d.out, decide_eq_true h2]
        clear HBT h1d
        go_wp2_with fail
        go_ret
        exact ⟨ret_bool HQ.out, by rw [← HN.out]; exact HB1.out⟩
      · have h2i : ¬ (rn : Int) ≤ 20 := by omega
        have HQ : Hid (false = bt) := by show _ = _; rw [← h1d.out, decide_eq_false h2]
        clear HBT h1d
        go_wp2_with fail
        go_ret
        exact ⟨ret_bool (by rw [show decide ((rn : Int) ≤ 20) = false from decide_eq_false (by omega)]; exact HQ.out), by rw [← HN.out]; exact HB1.out⟩
    · have h1i : ¬ (tn : Int) ≤ 12 := by omega
      have HQ : Hid (false = bt) := by show _ = _; rw [← HBT.out, decide_eq_false h1]; rfl
      clear HBT
      go_wp2_with fail
      go_ret
      exact ⟨ret_bool HQ.out, by rw [← HN.out]; exact HB1.out⟩

theorem bools_at {w : World} {x : Addr} {B : Nat → Bool} {cap : Nat} (hc : ∀ i, i < cap → w.cell? (x.add i) = some (.bool (B i))) (hp : 0 < cap) : ∃ b o, x = ⟨b, o, none⟩ ∧ ∀ i, i < cap → w.cell? ⟨b, o + i, none⟩ = some (.bool (B i)) := by
  obtain ⟨b, o, e⟩ := x
  cases e with
  | none => exact ⟨b, o, rfl, fun i hi => by have := hc i hi; rwa [add_at] at this⟩
  | some q =>
    have := hc 0 hp
    simp [Addr.add, World.cell?] at this
    split at this <;> cases this
theorem bools_arg {w : World} {x : Addr} {B : Nat → Bool} {len cap : Nat} (hl : len ≤ cap) (hc : ∀ i, i < cap → w.cell? (x.add i) = some (.bool (B i))) :
    ∃ zs : List Bool, zs.length = len ∧ Rd w w.heap.size (.slice (some x) len cap) (cvals zs) := by
  have hvl : (cvals ((List.range len).map B)).length = len := by simp [cvals]
  refine ⟨(List.range len).map B, by simp, ⟨some x, cap, by rw [hvl], ⟨(fun h => by cases h), by rw [hvl]; exact hl⟩, fun hp => ?_⟩⟩
  rw [hvl] at hp
  obtain ⟨b, o, rfl, hc'⟩ := bools_at hc (by omega)
  refine ⟨b, o, rfl, cell_lt (hc' 0 (by omega)), fun j u hu => ?_⟩
  have hj : j < len := by have := (List.getElem?_eq_some_iff.1 hu).1; rw [hvl] at this; exact this
  rw [hc' j (by omega), ← hu]
  simp [cvals, hj]

open Go.ChangeShapes Go.WideShapes Go.ChangeAt in
theorem spot_of_trod {H : Type} {enc : TypeId × Value → H} {W : World} {base : Nat} {v : Value} {dd : DataW H} {p : List MemPlace}
    (hval : Value.okWide Try.prog W .any base 29 v) (h : DataW.Trod enc Try.prog W 0 (fun _ => true) true 29 v dd p) :
    ∃ (x : Sp) (vt vr : Value), v = spV x vt vr ∧ SpOk x ∧ Rd W W.heap.size vt (bvals x.ts) ∧ Rd W W.heap.size vr (cvals x.ri) := by
  obtain ⟨cs, rfl, hsz⟩ := okWide_struct Try.underlying29 hval
  rw [show Try.prog.cellsOf 29 = 8 from by kernel_rfl] at hsz
  obtain ⟨fuel, hf⟩ := h
  obtain ⟨l⟩ := cs
  match l, hsz with
  | [c0, c1, c2, c3, c4, c5, c6, c7], _ =>
    obtain ⟨xs, n, _, _, _, hlen, hfs⟩ := DataW.trod_struct Try.underlying29 hf
    match xs, hlen with
    | [y0, y1, y2, y3, y4, y5, y6, y7], _ =>
      have k5 : Try.prog.cellsOf 5 = 1 := by kernel_rfl
      have k22 : Try.prog.cellsOf 22 = 1 := by kernel_rfl
      have k26 : Try.prog.cellsOf 26 = 1 := by kernel_rfl
      have k27 : Try.prog.cellsOf 27 = 1 := by kernel_rfl
      have g0 : DataW.trod enc Try.prog W 0 (fun _ => true) true n 5 [c0] = some y0 := by simpa [Value.cells, k5] using hfs 0 _ rfl
      have g1 : DataW.trod enc Try.prog W 0 (fun _ => true) true n 5 [c1] = some y1 := by simpa [Value.cells, k5] using hfs 1 _ rfl
      have g2 : DataW.trod enc Try.prog W 0 (fun _ => true) true n 26 [c2] = some y2 := by simpa [Value.cells, k26] using hfs 2 _ rfl
      have g3 : DataW.trod enc Try.prog W 0 (fun _ => true) true n 22 [c3] = some y3 := by simpa [Value.cells, k22] using hfs 3 _ rfl
      have g4 : DataW.trod enc Try.prog W 0 (fun _ => true) true n 22 [c4] = some y4 := by simpa [Value.cells, k22] using hfs 4 _ rfl
      have g5 : DataW.trod enc Try.prog W 0 (fun _ => true) true n 22 [c5] = some y5 := by simpa [Value.cells, k22] using hfs 5 _ rfl
      have g6 : DataW.trod enc Try.prog W 0 (fun _ => true) true n 22 [c6] = some y6 := by simpa [Value.cells, k22] using hfs 6 _ rfl
      have g7 : DataW.trod enc Try.prog W 0 (fun _ => true) true n 27 [c7] = some y7 := by simpa [Value.cells, k27] using hfs 7 _ rfl
      obtain ⟨z0, e0, _, w0⟩ := DataW.trod_int Try.underlying5 g0
      obtain ⟨z1, e1, _, w1⟩ := DataW.trod_int Try.underlying5 g1
      obtain ⟨z3, e3, _, w3⟩ := DataW.trod_int Try.underlying22 g3
      obtain ⟨z4, e4, _, w4⟩ := DataW.trod_int Try.underlying22 g4
      obtain ⟨z5, e5, _, w5⟩ := DataW.trod_int Try.underlying22 g5
      obtain ⟨z6, e6, _, w6⟩ := DataW.trod_int Try.underlying22 g6
      simp only [List.cons.injEq, and_true] at e0 e1 e3 e4 e5 e6
      obtain ⟨n0, rfl, b0⟩ := u8_nat w0
      obtain ⟨n1, rfl, b1⟩ := u8_nat w1
      obtain ⟨n3, rfl, b3⟩ := u16_nat w3
      obtain ⟨n4, rfl, b4⟩ := u16_nat w4
      obtain ⟨n5, rfl, b5⟩ := u16_nat w5
      obtain ⟨n6, rfl, b6⟩ := u16_nat w6
      have hq : ∃ q : List Nat, (∀ y ∈ q, y < 256) ∧ Rd W W.heap.size c2 (bvals q) := by
        rcases open_ints Try.underlying26 Try.underlying5 (by kernel_rfl) g2 with ⟨hcs, _⟩ | ⟨x, l, c, zs, hcs, _, hl, hm, hz, _, hcell, hwz⟩
        · simp only [List.cons.injEq, and_true] at hcs
          subst hcs
          exact ⟨[], fun _ h => by simp at h, Rd.empty _ _⟩
        · simp only [List.cons.injEq, and_true] at hcs
          subst hcs
          obtain ⟨q, h0, h1, h2⟩ := arg_some hl (by simpa using hz) hcell hwz
          exact ⟨q, h1, h2⟩
      have hr : ∃ q : List Bool, Rd W W.heap.size c7 (cvals q) := by
        rcases Go.Deep.open_bools Try.underlying27 Try.underlying4 (by kernel_rfl) g7 with ⟨hcs, _⟩ | ⟨x, l, c, B, hcs, _, hl, hm, _, hcell⟩
        · simp only [List.cons.injEq, and_true] at hcs
          subst hcs
          exact ⟨[], Rd.empty _ _⟩
        · simp only [List.cons.injEq, and_true] at hcs
          subst hcs
          obtain ⟨zs, _, hr⟩ := bools_arg hl hcell
          exact ⟨zs, hr⟩
      obtain ⟨q, hq1, hq2⟩ := hq
      obtain ⟨r, hr⟩ := hr
      subst e0 e1 e3 e4 e5 e6
      exact ⟨⟨n0, n1, q, n3, n4, n5, n6, r⟩, c2, c7, rfl, ⟨b0, b1, hq1, b3, b4, b5, b6⟩, hq2, hr⟩

end Go.Proofs.Ytbomkifnhkmkoaa
