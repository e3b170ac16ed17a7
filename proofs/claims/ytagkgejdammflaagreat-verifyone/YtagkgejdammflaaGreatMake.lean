/- Contract: Make: the layout of a draft. -/
import Derived.Test.YtagkgejdammflaaGreatBase
namespace Go.Proofs.YtagkgejdammflaaGreat
open Go.RowKit Fl
set_option maxRecDepth 100000

theorem Tryz.size33 : (Tryz.prog.info? 33).map (·.size) = some 10 := by kernel_rfl
theorem Tryz.info3 : (Tryz.prog.info? 3).map (fun i => (i.zero, i.size, i.bytes)) = some (some (.int .i64 0), 1, 8) := by kernel_rfl
theorem Tryz.info36 : (Tryz.prog.info? 36).map (fun i => (i.zero, i.size, i.bytes)) = some (some (.complex .f64 0 0), 1, 16) := by kernel_rfl
theorem Tryz.info39 : (Tryz.prog.info? 39).map (fun i => (i.zero, i.size, i.bytes)) = some (some (.agg #[.int .i64 0, .int .i64 0, .int .i64 0]), 3, 24) := by kernel_rfl
theorem Tryz.info42 : (Tryz.prog.info? 42).map (fun i => (i.zero, i.size, i.bytes)) = some (some (.slice none 0 0), 1, 24) := by kernel_rfl

set_option maxHeartbeats 16000000 in
theorem makeDraft_any (w : World) (d : Dr) (vr : Value) (hd : DrOk d) (h : BRows w w.heap.size vr d.routes) : Calls Tryz.prog 14 #[drV d vr] w (RetMake d w) := by
  obtain ⟨vs, ⟨Ar, cr, rfl, -, -⟩, -, -⟩ := h
  generalize vs.length = kr
  unfold drV
  have HM := Lib.hid (mk_of w #[.int .u8 (d.form : Int), .int .u8 (d.len : Int), .int .u8 (d.speed : Int), .int .u16 (d.mute : Int), .int .u16 (d.wait : Int), .int .u8 (d.cancel : Int), .int .u8 (d.stay : Int), .int .u8 (d.join : Int), .slice Ar kr cr])
  have HB := Lib.hid (below3 w (.cells #[.int .u8 (d.form : Int), .int .u8 (d.len : Int), .int .u8 (d.speed : Int), .int .u16 (d.mute : Int), .int .u16 (d.wait : Int), .int .u8 (d.cancel : Int), .int .u8 (d.stay : Int), .int .u8 (d.join : Int), .slice Ar kr cr] 25) (.cells #[.slice none 0 0, .slice none 0 0, .slice none 0 0, .slice none 0 0, .slice none 0 0, .int .i64 0, .int .i64 0, .int .i64 0, .int .i64 0, .int .i64 0] 33) (.cells #[.slice none 0 0, .slice none 0 0, .slice none 0 0, .slice none 0 0, .slice none 0 0, .int .i64 0, .int .i64 0, .int .i64 0, .int .i64 0, .int .i64 0] 33))
  have hU := unit_bounds d
  have o1 := hd.form; have o2 := hd.len
  have HD := Lib.hid hd; clear hd
  have hun : (10 : Int) * (1 + ((d.len : Int)) % 20) = (unit d : Int) := by unfold unit; omega
  have HWU := Lib.hid (fl_ofInt (unit d : Int) (by omega))
  go_enter Tryz.func14, Tryz.ntmps14
  go_upto_region 6 with (fail)
  generalize ((w.alloc (.cells #[.int .u8 (d.form : Int), .int .u8 (d.len : Int), .int .u8 (d.speed : Int), .int .u16 (d.mute : Int), .int .u16 (d.wait : Int), .int .u8 (d.cancel : Int), .int .u8 (d.stay : Int), .int .u8 (d.join : Int), .slice Ar kr cr] 25)).alloc (.cells #[.slice none 0 0, .slice none 0 0, .slice none 0 0, .slice none 0 0, .slice none 0 0, .int .i64 0, .int .i64 0, .int .i64 0, .int .i64 0, .int .i64 0] 33)).alloc (.cells #[.slice none 0 0, .slice none 0 0, .slice none 0 0, .slice none 0 0, .slice none 0 0, .int .i64 0, .int .i64 0, .int .i64 0, .int .i64 0, .int .i64 0] 33) = W0 at *
  generalize hb1 : w.heap.size + 1 = b1 at *
  generalize hb2 : b1 + 1 = b2 at *
  obtain ⟨n0, hn0⟩ : ∃ n, n = w.heap.size := ⟨_, rfl⟩
  rw [← hn0] at HM HB ⊢
  have HN : Hid (n0 = w.heap.size ∧ b1 = n0 + 1 ∧ b2 = n0 + 2) := by refine ⟨?_, ?_, ?_⟩ <;> omega
  clear hn0 hb1 hb2 hun
  obtain ⟨wU, hwU⟩ : ∃ x, floatOfInt .f64 (unit d : Int) = x := ⟨_, rfl⟩
  rw [hwU] at HWU ⊢
  have HWE := Lib.hid hwU; clear hwU
  have t0 := HM.out.dr.cell 0
  simp only [List.getElem?_toArray, List.getElem?_cons_zero] at t0
  go_upto_block 0 with (fail)
  go_cut [7, 8, 9, 10] (fun v7 _ _ _ wx => Hid (Sw w wx n0 b1 b2 #[.int .u8 (d.form : Int), .int .u8 (d.len : Int), .int .u8 (d.speed : Int), .int .u16 (d.mute : Int), .int .u16 (d.wait : Int), .int .u8 (d.cancel : Int), .int .u8 (d.stay : Int), .int .u8 (d.join : Int), .slice Ar kr cr] d v7))
  case first =>
    rcases (show d.form % 4 = 0 ∨ d.form % 4 = 1 ∨ d.form % 4 = 2 ∨ d.form % 4 = 3 by omega) with hf4 | hf4 | hf4 | hf4
    · have hfi : (d.form : Int) % 4 = 0 := by omega
      have HF4 := Lib.hid hf4; clear hf4
      have hrl : 3 + (d.form : Int) / 4 % 6 = (rowLen d : Int) := by unfold rowLen; omega
      have hrl2 : rowLen d ≤ 8 := by unfold rowLen; omega
      obtain ⟨i4, hi4, hz40, hz41, hz42⟩ := info_parts Tryz.info36
      obtain ⟨i9, hi9, hz90, hz91, hz92⟩ := info_parts Tryz.info58
      have HSZ : Hid (n0 < W0.heap.size ∧ b1 < W0.heap.size ∧ b2 < W0.heap.size) := ⟨HM.out.dr.lt, HM.out.res.lt, HM.out.lay.lt⟩
      go_wp2_with fail
      clear hrl hfi
      generalize hrn : rowLen d = n at *
      have HRN := Lib.hid hrn; clear hrn
      go_loopw [9] (fun k wr => ∃ i : Nat, i ≤ n + 1 ∧ k = .int .i64 i ∧ Hid (∃ v0 ps, Mk wr n0 b1 b2 #[.int .u8 (d.form : Int), .int .u8 (d.len : Int), .int .u8 (d.speed : Int), .int .u16 (d.mute : Int), .int .u16 (d.wait : Int), .int .u8 (d.cancel : Int), .int .u8 (d.stay : Int), .int .u8 (d.join : Int), .slice Ar kr cr] #[v0, .slice none 0 0, .slice none 0 0, .slice none 0 0, .slice none 0 0, .int .i64 0, .int .i64 0, .int .i64 0, .int .i64 0, .int .i64 0] ∧ wr.ownsRow W0.heap.size 36 1 v0 i (nvals ps) ∧ FlN ps ((List.range i).map (nodeAt d)) ∧ Below n0 w wr ∧ W0.heap.size ≤ wr.heap.size)) (fun k _ => n + 1 - (intOf k).toNat)
      case atStart => exact ⟨0, Nat.zero_le _, rfl, .slice none 0 0, [], HM.out, World.ownsRow_nil _ _ _ _, ⟨rfl, fun i h1 _ => absurd h1 (by simp)⟩, HB.out, Nat.le_refl _⟩
      case round =>
        obtain ⟨i, hi, rfl, HJ⟩ := hrel
        obtain ⟨v0, ps, hMk, hown, hFl, hBl, hSz⟩ := HJ.out
        obtain ⟨Av, cv, hv0⟩ := own_slice hown
        subst hv0
        have HMK := Lib.hid hMk; have HOWN := Lib.hid hown; have HFL := Lib.hid hFl; have HBL := Lib.hid hBl; have HSW := Lib.hid hSz
        clear hMk hown hFl hBl hSz HJ
        by_cases hlt : i < n + 1
        · have f0 := HMK.out.lay.cell 0
          simp only [List.getElem?_toArray, List.getElem?_cons_zero] at f0
          have hmul : unit d * i ≤ 200 * 8 := Nat.mul_le_mul hU.2 (by omega)
          have hmi : (unit d : Int) * (i : Int) = ((unit d * i : Nat) : Int) := by simp
          have hwr : IntKind.i64.wrap ((unit d : Int) * (i : Int)) = (unit d : Int) * (i : Int) := IntWalk.i64_in _ (by rw [hmi]; omega)
          obtain ⟨fx, hfx⟩ : ∃ x, floatOfInt .f64 ((unit d : Int) * (i : Int)) = x := ⟨_, rfl⟩
          have HFX : Hid (Fl 0 fx ((unit d * i : Nat) : Int)) := by rw [← hfx, hmi]; exact fl_ofInt _ (by omega)
          clear hmul hmi
          go_wp2_with (at_builtin; refine wpList_append_own _ rfl (.tmp 73) (.tmp 79) 28 rfl W0.heap.size 36 i4 (.complex .f64 0 0) 1 16 Tryz.underlying28 hi4 hz40 hz41 hz42 rfl (by decide) _ _ _ rfl (HOWN.out.alloc _) ⟨wr.heap.size, 0, none⟩ 1 1 [.complex .f64 fx 0] rfl rfl (one_new wr 36 _) (one_cell rfl) (by unfold maxLen; omega) (by omega) (by have := HSW.out; simp; omega) ?_)
          intro v5 w5 hown5 hgrow5 _
          rw [nvals_snoc] at hown5
          have hrb : ∀ k, (Value.slice Av i cv).ownBlock = some k → W0.heap.size ≤ k := fun k hk => (HOWN.out.lt k hk).1
          have mk5 := (HMK.out.fresh ((Below.refl _ _).alloc (Nat.le_refl _) (.cells #[.complex .f64 fx 0] 36))).grown hgrow5 hrb HSZ.out
          have bl5 : Below n0 w w5 := (HBL.out.alloc (by have := HSW.out; have := HSZ.out; omega) (.cells #[.complex .f64 fx 0] 36)).grown hgrow5 (by have h1 := HSW.out; have h2 := HSZ.out; simp; omega) (fun k hk => by have h1 := hrb k hk; have h2 := HSZ.out; omega)
          have sz5 : W0.heap.size ≤ w5.heap.size := by have h1 := HSW.out; have h2 := hgrow5.size; simp at h2; omega
          have g0 := mk5.lay.cell 0; have z0 := mk5.lay.frozen 0
          simp only [List.getElem?_toArray, List.getElem?_cons_zero] at g0
          obtain ⟨A5, c5, hv5⟩ := own_slice hown5
          subst hv5
          have HNX : Hid (∃ v0 ps, Mk (w5.setCell ⟨b2, 0, none⟩ (.slice A5 (i + 1) c5)) n0 b1 b2 #[.int .u8 (d.form : Int), .int .u8 (d.len : Int), .int .u8 (d.speed : Int), .int .u16 (d.mute : Int), .int .u16 (d.wait : Int), .int .u8 (d.cancel : Int), .int .u8 (d.stay : Int), .int .u8 (d.join : Int), .slice Ar kr cr] #[v0, .slice none 0 0, .slice none 0 0, .slice none 0 0, .slice none 0 0, .int .i64 0, .int .i64 0, .int .i64 0, .int .i64 0, .int .i64 0] ∧ (w5.setCell ⟨b2, 0, none⟩ (.slice A5 (i + 1) c5)).ownsRow W0.heap.size 36 1 v0 (i + 1) (nvals ps) ∧ FlN ps ((List.range (i + 1)).map (nodeAt d)) ∧ Below n0 w (w5.setCell ⟨b2, 0, none⟩ (.slice A5 (i + 1) c5)) ∧ W0.heap.size ≤ (w5.setCell ⟨b2, 0, none⟩ (.slice A5 (i + 1) c5)).heap.size) := by
            refine ⟨_, _, mk5.set 0 _, own_far (a := ⟨b2, 0, none⟩) hown5 (fun e => by have h1 := (hown5.lt b2 e).1; have h2 := HSZ.out; omega) _, ?_, bl5.setCell (by have := HN.out; show n0 ≤ b2; omega) _, by simpa [World.setCell] using sz5⟩
            rw [List.range_succ, List.map_append]
            exact FlN.snoc HFL.out HFX.out fl_zero
          clear hown5 hgrow5 hrb mk5 bl5 sz5 f0 hwr
          go_wp2_with fail
          go_roundw
          case rel => exact ⟨i + 1, by omega, by go_num, HNX⟩
          case measure => simp [intOf]; omega
        · have HIE : Hid (i = n + 1) := by show _ = _; omega
          obtain ⟨wL, hwL⟩ : ∃ x, x = wr := ⟨_, rfl⟩
          subst hwL
          obtain ⟨k0, hk0⟩ : ∃ x, x = i := ⟨_, rfl⟩
          subst hk0
          go_wp2_with fail
          simp only [show (decide (k0 ≤ n)) = false from decide_eq_false (by have := HIE.out; omega)]
          go_loopw [7, 10] (fun t k wr => ∃ i : Nat, i ≤ n ∧ k = .int .i64 i ∧ Hid (wr.ownsRow wL.heap.size 58 2 t i (ecells ((List.range i).map endAt)) ∧ KeptL [] wL wr)) (fun _ k _ => n - (intOf k).toNat)
          case atStart => exact ⟨0, Nat.zero_le _, rfl, World.ownsRow_nil _ _ _ _, KeptL.refl _ _⟩
          case round =>
            obtain ⟨i, hi2, rfl, HE⟩ := hrel
            by_cases hlt2 : i < n
            · have HSN : Hid (ecells ((List.range i).map endAt) ++ [.int .i64 (i : Int), .int .i64 ((i : Int) + 1)] = ecells ((List.range (i + 1)).map endAt)) := by
                show _ = _
                rw [List.range_succ, List.map_append]
                exact ecells_snoc _ (endAt i)
              go_wp2_with (at_builtin; refine wpList_append_own _ rfl (.tmp 87) (.tmp 92) 57 rfl wL.heap.size 58 i9 (.agg #[.int .i64 0, .int .i64 0]) 2 16 Tryz.underlying57 hi9 hz90 hz91 hz92 rfl (by decide) _ _ _ rfl (HE.out.1.alloc _) ⟨wr.heap.size, 0, none⟩ 1 1 [.int .i64 (i : Int), .int .i64 ((i : Int) + 1)] rfl rfl (row_new wr 58 _) (by intro u hu; simp at hu; rcases hu with rfl | rfl <;> rfl) (by unfold maxLen; omega) (by omega) (by have := HE.out.2.size; simp; omega) ?_)
              intro v5 w5 hown5 hgrow5 _
              rw [HSN.out] at hown5
              have hrb : ∀ k, u7.ownBlock = some k → wL.heap.size ≤ k := fun k hk => (HE.out.1.lt k hk).1
              have HNX : Hid (w5.ownsRow wL.heap.size 58 2 v5 (i + 1) (ecells ((List.range (i + 1)).map endAt)) ∧ KeptL [] wL w5) := ⟨hown5, (HE.out.2.alloc _).grown hgrow5 hrb⟩
              clear hown5 hgrow5 hrb
              go_wp2_with fail
              go_roundw
              case rel => exact ⟨i + 1, by omega, by go_num, HNX⟩
              case measure => simp [intOf]; omega
            · have HIN : Hid (i = n) := by show _ = _; omega
              go_wp2_with fail
              go_meet
              case rel =>
                have hin := HIN.out
                have hie := HIE.out
                refine ⟨_, _, HMK.out.kept HE.out.2, ?_, ?_, ?_, HBL.out.trans (HE.out.2.below (by have h1 := HSW.out; have h2 := HSZ.out; omega) (by simp))⟩
                · have e : makeNodes d = (List.range k0).map (nodeAt d) := by unfold makeNodes; rw [HF4.out, hie, ← HRN.out]; rfl
                  rw [e]
                  exact ⟨ps, (Tl.of_own HOWN.out).kept HE.out.2 (by intro k hk; simp at hk), HFL.out⟩
                · have e : makePoints d = [] := by unfold makePoints; rw [HF4.out]; rfl
                  rw [e]; exact IsPoints.nil _
                · have e : makeEnds d = (List.range i).map endAt := by unfold makeEnds; rw [HF4.out, hin, ← HRN.out]; rfl
                  rw [e]; exact Ends.of_own HE.out.1 (by simp)
    · have hfi : (d.form : Int) % 4 = 1 := by omega
      have HF4 := Lib.hid hf4; clear hf4
      obtain ⟨re2, im2, e2, f2, g2⟩ := cmul_real fl_two HWU.out (by omega) (by omega) (by omega) (by omega)
      have m2 : ∀ t w, (binOp .mul t (.complex .f64 4611686018427387904 0) (.complex .f64 wU 0)).run Tryz.prog w = .ok (.complex .f64 re2 im2) w := fun t w => run_complex_mul w t 4611686018427387904 0 wU 0 re2 im2 e2
      clear e2
      obtain ⟨rap, iap, eap, fap, gap⟩ := cadd_any f2 g2 fl_zero HWU.out (by omega) (by omega)
      have sp : ∀ t w, (binOp .add t (.complex .f64 re2 im2) (.complex .f64 0 wU)).run Tryz.prog w = .ok (.complex .f64 rap iap) w := fun t w => run_complex_sum w .add (Or.inl rfl) t .f64 re2 im2 0 wU rap iap eap
      clear eap
      obtain ⟨raq, iaq, eaq, faq, gaq⟩ := csub_any f2 g2 fl_zero HWU.out (by omega) (by omega)
      have sq : ∀ t w, (binOp .sub t (.complex .f64 re2 im2) (.complex .f64 0 wU)).run Tryz.prog w = .ok (.complex .f64 raq iaq) w := fun t w => run_complex_sum w .sub (Or.inr rfl) t .f64 re2 im2 0 wU raq iaq eaq
      clear eaq
      have HQp : Hid (Fl 0 _ _ ∧ Fl 0 _ _) := ⟨fap, gap⟩
      have HQq : Hid (Fl 0 _ _ ∧ Fl 0 _ _) := ⟨faq, gaq⟩
      clear fap faq gap gaq f2 g2
      have mkA := HM.out.fresh ((Below.refl _ _).alloc (Nat.le_refl _) (.cells #[.complex .f64 0 0, .complex .f64 wU 0, .complex .f64 rap iap, .complex .f64 raq iaq] 36))
      have rN := Row.new W0 36 #[.complex .f64 0 0, .complex .f64 wU 0, .complex .f64 rap iap, .complex .f64 raq iaq]
      have z0 := mkA.lay.cell 0; have z1 := mkA.lay.frozen 0
      simp only [List.getElem?_toArray, List.getElem?_cons_zero] at z0
      obtain ⟨aN, haN⟩ : ∃ n, n = W0.heap.size := ⟨_, rfl⟩
      rw [← haN] at rN
      have mkB : Mk ((W0.alloc (.cells #[.complex .f64 0 0, .complex .f64 wU 0, .complex .f64 rap iap, .complex .f64 raq iaq] 36)).setCell ⟨b2, 0, none⟩ (.slice (some ⟨aN, 0, none⟩) 4 4)) n0 b1 b2 #[.int .u8 (d.form : Int), .int .u8 (d.len : Int), .int .u8 (d.speed : Int), .int .u16 (d.mute : Int), .int .u16 (d.wait : Int), .int .u8 (d.cancel : Int), .int .u8 (d.stay : Int), .int .u8 (d.join : Int), .slice Ar kr cr] #[.slice (some ⟨aN, 0, none⟩) 4 4, .slice none 0 0, .slice none 0 0, .slice none 0 0, .slice none 0 0, .int .i64 0, .int .i64 0, .int .i64 0, .int .i64 0, .int .i64 0] := mkA.set 0 (.slice (some ⟨aN, 0, none⟩) 4 4)
      have hne : aN ≠ b2 := by have := HM.out.lay.lt; omega
      have rN2 := rN.far (p := ⟨b2, 0, none⟩) hne (.slice (some ⟨aN, 0, none⟩) 4 4)
      have blB : Below n0 w ((W0.alloc (.cells #[.complex .f64 0 0, .complex .f64 wU 0, .complex .f64 rap iap, .complex .f64 raq iaq] 36)).setCell ⟨b2, 0, none⟩ (.slice (some ⟨aN, 0, none⟩) 4 4)) := (HB.out.alloc (by have := HM.out.dr.lt; omega) _).setCell (by have := HN.out; show n0 ≤ b2; omega) _
      have HV1 : Hid (Mk _ n0 b1 b2 #[.int .u8 (d.form : Int), .int .u8 (d.len : Int), .int .u8 (d.speed : Int), .int .u16 (d.mute : Int), .int .u16 (d.wait : Int), .int .u8 (d.cancel : Int), .int .u8 (d.stay : Int), .int .u8 (d.join : Int), .slice Ar kr cr] #[.slice (some ⟨aN, 0, none⟩) 4 4, .slice none 0 0, .slice none 0 0, .slice none 0 0, .slice none 0 0, .int .i64 0, .int .i64 0, .int .i64 0, .int .i64 0, .int .i64 0] ∧ Row _ aN 36 #[.complex .f64 0 0, .complex .f64 wU 0, .complex .f64 rap iap, .complex .f64 raq iaq] ∧ Below n0 w _) := ⟨mkB, rN2, blB⟩
      clear mkA rN mkB hne rN2 blB
      go_upto_region 22 with (fail)
      rw [← haN]
      clear haN z0 z1
      generalize (W0.alloc (.cells #[.complex .f64 0 0, .complex .f64 wU 0, .complex .f64 rap iap, .complex .f64 raq iaq] 36)).setCell ⟨b2, 0, none⟩ (.slice (some ⟨aN, 0, none⟩) 4 4) = V1 at *
      have rE := Row.new V1 58 #[.int .i64 0, .int .i64 1, .int .i64 1, .int .i64 2, .int .i64 3, .int .i64 1]
      obtain ⟨aE, haE⟩ : ∃ n, n = V1.heap.size := ⟨_, rfl⟩
      rw [← haE] at rE
      have HV2 : Hid (Mk (V1.alloc (.cells #[.int .i64 0, .int .i64 1, .int .i64 1, .int .i64 2, .int .i64 3, .int .i64 1] 58)) n0 b1 b2 #[.int .u8 (d.form : Int), .int .u8 (d.len : Int), .int .u8 (d.speed : Int), .int .u16 (d.mute : Int), .int .u16 (d.wait : Int), .int .u8 (d.cancel : Int), .int .u8 (d.stay : Int), .int .u8 (d.join : Int), .slice Ar kr cr] #[.slice (some ⟨aN, 0, none⟩) 4 4, .slice none 0 0, .slice none 0 0, .slice none 0 0, .slice none 0 0, .int .i64 0, .int .i64 0, .int .i64 0, .int .i64 0, .int .i64 0] ∧ Row (V1.alloc (.cells #[.int .i64 0, .int .i64 1, .int .i64 1, .int .i64 2, .int .i64 3, .int .i64 1] 58)) aN 36 #[.complex .f64 0 0, .complex .f64 wU 0, .complex .f64 rap iap, .complex .f64 raq iaq] ∧ Row (V1.alloc (.cells #[.int .i64 0, .int .i64 1, .int .i64 1, .int .i64 2, .int .i64 3, .int .i64 1] 58)) aE 58 #[.int .i64 0, .int .i64 1, .int .i64 1, .int .i64 2, .int .i64 3, .int .i64 1] ∧ Below n0 w (V1.alloc (.cells #[.int .i64 0, .int .i64 1, .int .i64 1, .int .i64 2, .int .i64 3, .int .i64 1] 58))) :=
        ⟨HV1.out.1.fresh ((Below.refl _ _).alloc (Nat.le_refl _) _), HV1.out.2.1.alloc _, rE, HV1.out.2.2.alloc (by have := HV1.out.1.dr.lt; omega) _⟩
      clear rE HV1
      go_upto_region 23 with (fail)
      rw [← haE]
      clear haE
      generalize V1.alloc (.cells #[.int .i64 0, .int .i64 1, .int .i64 1, .int .i64 2, .int .i64 3, .int .i64 1] 58) = V2 at *
      have mkC := HV2.out.1.fresh ((Below.refl _ _).alloc (Nat.le_refl _) (.cells #[.int .i64 1, .int .i64 0, .int .i64 1, .int .i64 2] 41))
      have rP := Row.new V2 41 #[.int .i64 1, .int .i64 0, .int .i64 1, .int .i64 2]
      have y0 := mkC.lay.cell 3; have y1 := mkC.lay.frozen 3
      simp only [List.getElem?_toArray, List.getElem?_cons_zero, List.getElem?_cons_succ] at y0
      obtain ⟨aP, haP⟩ : ∃ n, n = V2.heap.size := ⟨_, rfl⟩
      rw [← haP] at rP
      have mkD : Mk ((V2.alloc (.cells #[.int .i64 1, .int .i64 0, .int .i64 1, .int .i64 2] 41)).setCell ⟨b2, 3, none⟩ (.slice (some ⟨aP, 0, none⟩) 1 1)) n0 b1 b2 #[.int .u8 (d.form : Int), .int .u8 (d.len : Int), .int .u8 (d.speed : Int), .int .u16 (d.mute : Int), .int .u16 (d.wait : Int), .int .u8 (d.cancel : Int), .int .u8 (d.stay : Int), .int .u8 (d.join : Int), .slice Ar kr cr] #[.slice (some ⟨aN, 0, none⟩) 4 4, .slice none 0 0, .slice none 0 0, .slice (some ⟨aP, 0, none⟩) 1 1, .slice none 0 0, .int .i64 0, .int .i64 0, .int .i64 0, .int .i64 0, .int .i64 0] := mkC.set 3 (.slice (some ⟨aP, 0, none⟩) 1 1)
      have hP2 : aP ≠ b2 := by have := HV2.out.1.lay.lt; omega
      have hN2 : aN ≠ b2 := Row.ne HV2.out.2.1 HV2.out.1.lay (by decide)
      have hE2 : aE ≠ b2 := Row.ne HV2.out.2.2.1 HV2.out.1.lay (by decide)
      have HV3 : Hid (Sw w ((V2.alloc (.cells #[.int .i64 1, .int .i64 0, .int .i64 1, .int .i64 2] 41)).setCell ⟨b2, 3, none⟩ (.slice (some ⟨aP, 0, none⟩) 1 1)) n0 b1 b2 #[.int .u8 (d.form : Int), .int .u8 (d.len : Int), .int .u8 (d.speed : Int), .int .u16 (d.mute : Int), .int .u16 (d.wait : Int), .int .u8 (d.cancel : Int), .int .u8 (d.stay : Int), .int .u8 (d.join : Int), .slice Ar kr cr] d (.slice (some ⟨aE, 0, none⟩) 3 3)) := by
        refine ⟨.slice (some ⟨aN, 0, none⟩) 4 4, .slice (some ⟨aP, 0, none⟩) 1 1, mkD, ?_, ?_, ?_, ?_⟩
        · have e : makeNodes d = [(0, 0), ((unit d : Int), 0), (2 * (unit d : Int), (unit d : Int)), (2 * (unit d : Int), -(unit d : Int))] := by unfold makeNodes; rw [HF4.out]; rfl
          rw [e]
          refine ⟨[(0, 0), (wU, 0), (rap, iap), (raq, iaq)], Tl.row 4 ((HV2.out.2.1.alloc _).far (p := ⟨b2, 3, none⟩) hN2 _) rfl (fun j u hu => by simpa [nvals] using hu), rfl, fun j h1 h2 => ?_⟩
          match j, h1, h2 with
          | 0, _, _ => exact ⟨fl_zero, fl_zero⟩
          | 1, _, _ => exact ⟨HWU.out, fl_zero⟩
          | 2, _, _ => exact ⟨by have := HQp.out.1; simpa using this, by have := HQp.out.2; simpa using this⟩
          | 3, _, _ => exact ⟨by have := HQq.out.1; simpa using this, by have := HQq.out.2; simpa using this⟩
        · have e : makePoints d = [(1, 0, 1, 2)] := by unfold makePoints; rw [HF4.out]; rfl
          rw [e]
          refine ⟨_, _, rfl, fun _ => ⟨aP, _, (0, 0), rfl, rP.far (p := ⟨b2, 3, none⟩) hP2 _, fun j hj => ?_⟩⟩
          match j, hj with
          | 0, _ => exact ⟨rfl, rfl, rfl, rfl⟩
        · have e : makeEnds d = [(0, 1), (1, 2), (3, 1)] := by unfold makeEnds; rw [HF4.out]; rfl
          rw [e]
          refine ⟨_, _, rfl, fun _ => ⟨aE, _, (0, 0), rfl, (HV2.out.2.2.1.alloc _).far (p := ⟨b2, 3, none⟩) hE2 _, fun j hj => ?_⟩⟩
          match j, hj with
          | 0, _ => exact ⟨rfl, rfl⟩
          | 1, _ => exact ⟨rfl, rfl⟩
          | 2, _ => exact ⟨rfl, rfl⟩
        · exact (HV2.out.2.2.2.alloc (by have := HV2.out.1.dr.lt; omega) _).setCell (by have := HN.out; show n0 ≤ b2; omega) _
      clear mkC rP mkD hP2 hN2 hE2 HV2
      go_wp2_with fail
      rw [← haP]
      clear haP
      go_meet
      case rel => exact HV3
    · have hfi : (d.form : Int) % 4 = 2 := by omega
      have HF4 := Lib.hid hf4; clear hf4
      obtain ⟨re2, im2, e2, f2, g2⟩ := cmul_real fl_two HWU.out (by omega) (by omega) (by omega) (by omega)
      have m2 : ∀ t w, (binOp .mul t (.complex .f64 4611686018427387904 0) (.complex .f64 wU 0)).run Tryz.prog w = .ok (.complex .f64 re2 im2) w := fun t w => run_complex_mul w t 4611686018427387904 0 wU 0 re2 im2 e2
      clear e2
      obtain ⟨re3, im3, e3, f3, g3⟩ := cmul_real fl_three HWU.out (by omega) (by omega) (by omega) (by omega)
      have m3 : ∀ t w, (binOp .mul t (.complex .f64 4613937818241073152 0) (.complex .f64 wU 0)).run Tryz.prog w = .ok (.complex .f64 re3 im3) w := fun t w => run_complex_mul w t 4613937818241073152 0 wU 0 re3 im3 e3
      clear e3
      obtain ⟨re4, im4, e4, f4, g4⟩ := cmul_real fl_four HWU.out (by omega) (by omega) (by omega) (by omega)
      have m4 : ∀ t w, (binOp .mul t (.complex .f64 4616189618054758400 0) (.complex .f64 wU 0)).run Tryz.prog w = .ok (.complex .f64 re4 im4) w := fun t w => run_complex_mul w t 4616189618054758400 0 wU 0 re4 im4 e4
      clear e4
      obtain ⟨re5, im5, e5, f5, g5⟩ := cmul_real fl_five HWU.out (by omega) (by omega) (by omega) (by omega)
      have m5 : ∀ t w, (binOp .mul t (.complex .f64 4617315517961601024 0) (.complex .f64 wU 0)).run Tryz.prog w = .ok (.complex .f64 re5 im5) w := fun t w => run_complex_mul w t 4617315517961601024 0 wU 0 re5 im5 e5
      clear e5
      obtain ⟨re6, im6, e6, f6, g6⟩ := cmul_real fl_six HWU.out (by omega) (by omega) (by omega) (by omega)
      have m6 : ∀ t w, (binOp .mul t (.complex .f64 4618441417868443648 0) (.complex .f64 wU 0)).run Tryz.prog w = .ok (.complex .f64 re6 im6) w := fun t w => run_complex_mul w t 4618441417868443648 0 wU 0 re6 im6 e6
      clear e6
      obtain ⟨hf, eh, fh⟩ := chalf d
      rw [HWE.out] at eh
      have qh : ∀ t w, (binOp .quo t (.complex .f64 0 wU) (.complex .f64 4611686018427387904 0)).run Tryz.prog w = .ok (.complex .f64 0 hf) w := fun t w => (run_complex_quo w t 0 wU 4611686018427387904 0 0 hf eh).1
      have hHb : ((5 * (1 + d.len % 20) : Nat) : Int) ≤ 200 := by omega
      clear eh
      obtain ⟨rap, iap, eap, fap, gap⟩ := cadd_any f3 g3 fl_zero fh (by omega) (by omega)
      have sp : ∀ t w, (binOp .add t (.complex .f64 re3 im3) (.complex .f64 0 hf)).run Tryz.prog w = .ok (.complex .f64 rap iap) w := fun t w => run_complex_sum w .add (Or.inl rfl) t .f64 re3 im3 0 hf rap iap eap
      clear eap
      obtain ⟨raq, iaq, eaq, faq, gaq⟩ := csub_any f3 g3 fl_zero fh (by omega) (by omega)
      have sq : ∀ t w, (binOp .sub t (.complex .f64 re3 im3) (.complex .f64 0 hf)).run Tryz.prog w = .ok (.complex .f64 raq iaq) w := fun t w => run_complex_sum w .sub (Or.inr rfl) t .f64 re3 im3 0 hf raq iaq eaq
      clear eaq
      have HQ2 : Hid (Fl 0 _ _ ∧ Fl 0 _ _) := ⟨f2, g2⟩
      have HQp : Hid (Fl 0 _ _ ∧ Fl 0 _ _) := ⟨fap, gap⟩
      have HQq : Hid (Fl 0 _ _ ∧ Fl 0 _ _) := ⟨faq, gaq⟩
      have HQ4 : Hid (Fl 0 _ _ ∧ Fl 0 _ _) := ⟨f4, g4⟩
      have HQ5 : Hid (Fl 0 _ _ ∧ Fl 0 _ _) := ⟨f5, g5⟩
      have HQ6 : Hid (Fl 0 _ _ ∧ Fl 0 _ _) := ⟨f6, g6⟩
      clear f2 f4 f5 f6 fap faq g2 g4 g5 g6 gap gaq f3 g3 fh hHb
      have mkA := HM.out.fresh ((Below.refl _ _).alloc (Nat.le_refl _) (.cells #[.complex .f64 0 0, .complex .f64 wU 0, .complex .f64 re2 im2, .complex .f64 rap iap, .complex .f64 raq iaq, .complex .f64 re4 im4, .complex .f64 re5 im5, .complex .f64 re6 im6] 36))
      have rN := Row.new W0 36 #[.complex .f64 0 0, .complex .f64 wU 0, .complex .f64 re2 im2, .complex .f64 rap iap, .complex .f64 raq iaq, .complex .f64 re4 im4, .complex .f64 re5 im5, .complex .f64 re6 im6]
      have z0 := mkA.lay.cell 0; have z1 := mkA.lay.frozen 0
      simp only [List.getElem?_toArray, List.getElem?_cons_zero] at z0
      obtain ⟨aN, haN⟩ : ∃ n, n = W0.heap.size := ⟨_, rfl⟩
      rw [← haN] at rN
      have mkB : Mk ((W0.alloc (.cells #[.complex .f64 0 0, .complex .f64 wU 0, .complex .f64 re2 im2, .complex .f64 rap iap, .complex .f64 raq iaq, .complex .f64 re4 im4, .complex .f64 re5 im5, .complex .f64 re6 im6] 36)).setCell ⟨b2, 0, none⟩ (.slice (some ⟨aN, 0, none⟩) 8 8)) n0 b1 b2 #[.int .u8 (d.form : Int), .int .u8 (d.len : Int), .int .u8 (d.speed : Int), .int .u16 (d.mute : Int), .int .u16 (d.wait : Int), .int .u8 (d.cancel : Int), .int .u8 (d.stay : Int), .int .u8 (d.join : Int), .slice Ar kr cr] #[.slice (some ⟨aN, 0, none⟩) 8 8, .slice none 0 0, .slice none 0 0, .slice none 0 0, .slice none 0 0, .int .i64 0, .int .i64 0, .int .i64 0, .int .i64 0, .int .i64 0] := mkA.set 0 (.slice (some ⟨aN, 0, none⟩) 8 8)
      have hne : aN ≠ b2 := by have := HM.out.lay.lt; omega
      have rN2 := rN.far (p := ⟨b2, 0, none⟩) hne (.slice (some ⟨aN, 0, none⟩) 8 8)
      have blB : Below n0 w ((W0.alloc (.cells #[.complex .f64 0 0, .complex .f64 wU 0, .complex .f64 re2 im2, .complex .f64 rap iap, .complex .f64 raq iaq, .complex .f64 re4 im4, .complex .f64 re5 im5, .complex .f64 re6 im6] 36)).setCell ⟨b2, 0, none⟩ (.slice (some ⟨aN, 0, none⟩) 8 8)) := (HB.out.alloc (by have := HM.out.dr.lt; omega) _).setCell (by have := HN.out; show n0 ≤ b2; omega) _
      have HV1 : Hid (Mk _ n0 b1 b2 #[.int .u8 (d.form : Int), .int .u8 (d.len : Int), .int .u8 (d.speed : Int), .int .u16 (d.mute : Int), .int .u16 (d.wait : Int), .int .u8 (d.cancel : Int), .int .u8 (d.stay : Int), .int .u8 (d.join : Int), .slice Ar kr cr] #[.slice (some ⟨aN, 0, none⟩) 8 8, .slice none 0 0, .slice none 0 0, .slice none 0 0, .slice none 0 0, .int .i64 0, .int .i64 0, .int .i64 0, .int .i64 0, .int .i64 0] ∧ Row _ aN 36 #[.complex .f64 0 0, .complex .f64 wU 0, .complex .f64 re2 im2, .complex .f64 rap iap, .complex .f64 raq iaq, .complex .f64 re4 im4, .complex .f64 re5 im5, .complex .f64 re6 im6] ∧ Below n0 w _) := ⟨mkB, rN2, blB⟩
      clear mkA rN mkB hne rN2 blB
      go_upto_region 26 with (fail)
      rw [← haN]
      clear haN z0 z1
      generalize (W0.alloc (.cells #[.complex .f64 0 0, .complex .f64 wU 0, .complex .f64 re2 im2, .complex .f64 rap iap, .complex .f64 raq iaq, .complex .f64 re4 im4, .complex .f64 re5 im5, .complex .f64 re6 im6] 36)).setCell ⟨b2, 0, none⟩ (.slice (some ⟨aN, 0, none⟩) 8 8) = V1 at *
      have rE := Row.new V1 58 #[.int .i64 0, .int .i64 1, .int .i64 1, .int .i64 2, .int .i64 2, .int .i64 3, .int .i64 2, .int .i64 4, .int .i64 5, .int .i64 3, .int .i64 4, .int .i64 5, .int .i64 5, .int .i64 6, .int .i64 6, .int .i64 7]
      obtain ⟨aE, haE⟩ : ∃ n, n = V1.heap.size := ⟨_, rfl⟩
      rw [← haE] at rE
      have HV2 : Hid (Mk (V1.alloc (.cells #[.int .i64 0, .int .i64 1, .int .i64 1, .int .i64 2, .int .i64 2, .int .i64 3, .int .i64 2, .int .i64 4, .int .i64 5, .int .i64 3, .int .i64 4, .int .i64 5, .int .i64 5, .int .i64 6, .int .i64 6, .int .i64 7] 58)) n0 b1 b2 #[.int .u8 (d.form : Int), .int .u8 (d.len : Int), .int .u8 (d.speed : Int), .int .u16 (d.mute : Int), .int .u16 (d.wait : Int), .int .u8 (d.cancel : Int), .int .u8 (d.stay : Int), .int .u8 (d.join : Int), .slice Ar kr cr] #[.slice (some ⟨aN, 0, none⟩) 8 8, .slice none 0 0, .slice none 0 0, .slice none 0 0, .slice none 0 0, .int .i64 0, .int .i64 0, .int .i64 0, .int .i64 0, .int .i64 0] ∧ Row (V1.alloc (.cells #[.int .i64 0, .int .i64 1, .int .i64 1, .int .i64 2, .int .i64 2, .int .i64 3, .int .i64 2, .int .i64 4, .int .i64 5, .int .i64 3, .int .i64 4, .int .i64 5, .int .i64 5, .int .i64 6, .int .i64 6, .int .i64 7] 58)) aN 36 #[.complex .f64 0 0, .complex .f64 wU 0, .complex .f64 re2 im2, .complex .f64 rap iap, .complex .f64 raq iaq, .complex .f64 re4 im4, .complex .f64 re5 im5, .complex .f64 re6 im6] ∧ Row (V1.alloc (.cells #[.int .i64 0, .int .i64 1, .int .i64 1, .int .i64 2, .int .i64 2, .int .i64 3, .int .i64 2, .int .i64 4, .int .i64 5, .int .i64 3, .int .i64 4, .int .i64 5, .int .i64 5, .int .i64 6, .int .i64 6, .int .i64 7] 58)) aE 58 #[.int .i64 0, .int .i64 1, .int .i64 1, .int .i64 2, .int .i64 2, .int .i64 3, .int .i64 2, .int .i64 4, .int .i64 5, .int .i64 3, .int .i64 4, .int .i64 5, .int .i64 5, .int .i64 6, .int .i64 6, .int .i64 7] ∧ Below n0 w (V1.alloc (.cells #[.int .i64 0, .int .i64 1, .int .i64 1, .int .i64 2, .int .i64 2, .int .i64 3, .int .i64 2, .int .i64 4, .int .i64 5, .int .i64 3, .int .i64 4, .int .i64 5, .int .i64 5, .int .i64 6, .int .i64 6, .int .i64 7] 58))) :=
        ⟨HV1.out.1.fresh ((Below.refl _ _).alloc (Nat.le_refl _) _), HV1.out.2.1.alloc _, rE, HV1.out.2.2.alloc (by have := HV1.out.1.dr.lt; omega) _⟩
      clear rE HV1
      go_upto_region 27 with (fail)
      rw [← haE]
      clear haE
      generalize V1.alloc (.cells #[.int .i64 0, .int .i64 1, .int .i64 1, .int .i64 2, .int .i64 2, .int .i64 3, .int .i64 2, .int .i64 4, .int .i64 5, .int .i64 3, .int .i64 4, .int .i64 5, .int .i64 5, .int .i64 6, .int .i64 6, .int .i64 7] 58) = V2 at *
      have mkC := HV2.out.1.fresh ((Below.refl _ _).alloc (Nat.le_refl _) (.cells #[.int .i64 2, .int .i64 1, .int .i64 2, .int .i64 3, .int .i64 5, .int .i64 6, .int .i64 4, .int .i64 5] 41))
      have rP := Row.new V2 41 #[.int .i64 2, .int .i64 1, .int .i64 2, .int .i64 3, .int .i64 5, .int .i64 6, .int .i64 4, .int .i64 5]
      have y0 := mkC.lay.cell 3; have y1 := mkC.lay.frozen 3
      simp only [List.getElem?_toArray, List.getElem?_cons_zero, List.getElem?_cons_succ] at y0
      obtain ⟨aP, haP⟩ : ∃ n, n = V2.heap.size := ⟨_, rfl⟩
      rw [← haP] at rP
      have mkD : Mk ((V2.alloc (.cells #[.int .i64 2, .int .i64 1, .int .i64 2, .int .i64 3, .int .i64 5, .int .i64 6, .int .i64 4, .int .i64 5] 41)).setCell ⟨b2, 3, none⟩ (.slice (some ⟨aP, 0, none⟩) 2 2)) n0 b1 b2 #[.int .u8 (d.form : Int), .int .u8 (d.len : Int), .int .u8 (d.speed : Int), .int .u16 (d.mute : Int), .int .u16 (d.wait : Int), .int .u8 (d.cancel : Int), .int .u8 (d.stay : Int), .int .u8 (d.join : Int), .slice Ar kr cr] #[.slice (some ⟨aN, 0, none⟩) 8 8, .slice none 0 0, .slice none 0 0, .slice (some ⟨aP, 0, none⟩) 2 2, .slice none 0 0, .int .i64 0, .int .i64 0, .int .i64 0, .int .i64 0, .int .i64 0] := mkC.set 3 (.slice (some ⟨aP, 0, none⟩) 2 2)
      have hP2 : aP ≠ b2 := by have := HV2.out.1.lay.lt; omega
      have hN2 : aN ≠ b2 := Row.ne HV2.out.2.1 HV2.out.1.lay (by decide)
      have hE2 : aE ≠ b2 := Row.ne HV2.out.2.2.1 HV2.out.1.lay (by decide)
      have HV3 : Hid (Sw w ((V2.alloc (.cells #[.int .i64 2, .int .i64 1, .int .i64 2, .int .i64 3, .int .i64 5, .int .i64 6, .int .i64 4, .int .i64 5] 41)).setCell ⟨b2, 3, none⟩ (.slice (some ⟨aP, 0, none⟩) 2 2)) n0 b1 b2 #[.int .u8 (d.form : Int), .int .u8 (d.len : Int), .int .u8 (d.speed : Int), .int .u16 (d.mute : Int), .int .u16 (d.wait : Int), .int .u8 (d.cancel : Int), .int .u8 (d.stay : Int), .int .u8 (d.join : Int), .slice Ar kr cr] d (.slice (some ⟨aE, 0, none⟩) 8 8)) := by
        refine ⟨.slice (some ⟨aN, 0, none⟩) 8 8, .slice (some ⟨aP, 0, none⟩) 2 2, mkD, ?_, ?_, ?_, ?_⟩
        · have e : makeNodes d = [(0, 0), ((unit d : Int), 0), (2 * (unit d : Int), 0), (3 * (unit d : Int), ((5 * (1 + d.len % 20) : Nat) : Int)), (3 * (unit d : Int), -((5 * (1 + d.len % 20) : Nat) : Int)), (4 * (unit d : Int), 0), (5 * (unit d : Int), 0), (6 * (unit d : Int), 0)] := by unfold makeNodes; rw [HF4.out]; rfl
          rw [e]
          refine ⟨[(0, 0), (wU, 0), (re2, im2), (rap, iap), (raq, iaq), (re4, im4), (re5, im5), (re6, im6)], Tl.row 8 ((HV2.out.2.1.alloc _).far (p := ⟨b2, 3, none⟩) hN2 _) rfl (fun j u hu => by simpa [nvals] using hu), rfl, fun j h1 h2 => ?_⟩
          match j, h1, h2 with
          | 0, _, _ => exact ⟨fl_zero, fl_zero⟩
          | 1, _, _ => exact ⟨HWU.out, fl_zero⟩
          | 2, _, _ => exact ⟨by have := HQ2.out.1; simpa using this, by have := HQ2.out.2; simpa using this⟩
          | 3, _, _ => exact ⟨by have := HQp.out.1; simpa using this, by have := HQp.out.2; simpa using this⟩
          | 4, _, _ => exact ⟨by have := HQq.out.1; simpa using this, by have := HQq.out.2; simpa using this⟩
          | 5, _, _ => exact ⟨by have := HQ4.out.1; simpa using this, by have := HQ4.out.2; simpa using this⟩
          | 6, _, _ => exact ⟨by have := HQ5.out.1; simpa using this, by have := HQ5.out.2; simpa using this⟩
          | 7, _, _ => exact ⟨by have := HQ6.out.1; simpa using this, by have := HQ6.out.2; simpa using this⟩
        · have e : makePoints d = [(2, 1, 2, 3), (5, 6, 4, 5)] := by unfold makePoints; rw [HF4.out]; rfl
          rw [e]
          refine ⟨_, _, rfl, fun _ => ⟨aP, _, (0, 0), rfl, rP.far (p := ⟨b2, 3, none⟩) hP2 _, fun j hj => ?_⟩⟩
          match j, hj with
          | 0, _ => exact ⟨rfl, rfl, rfl, rfl⟩
          | 1, _ => exact ⟨rfl, rfl, rfl, rfl⟩
        · have e : makeEnds d = [(0, 1), (1, 2), (2, 3), (2, 4), (5, 3), (4, 5), (5, 6), (6, 7)] := by unfold makeEnds; rw [HF4.out]; rfl
          rw [e]
          refine ⟨_, _, rfl, fun _ => ⟨aE, _, (0, 0), rfl, (HV2.out.2.2.1.alloc _).far (p := ⟨b2, 3, none⟩) hE2 _, fun j hj => ?_⟩⟩
          match j, hj with
          | 0, _ => exact ⟨rfl, rfl⟩
          | 1, _ => exact ⟨rfl, rfl⟩
          | 2, _ => exact ⟨rfl, rfl⟩
          | 3, _ => exact ⟨rfl, rfl⟩
          | 4, _ => exact ⟨rfl, rfl⟩
          | 5, _ => exact ⟨rfl, rfl⟩
          | 6, _ => exact ⟨rfl, rfl⟩
          | 7, _ => exact ⟨rfl, rfl⟩
        · exact (HV2.out.2.2.2.alloc (by have := HV2.out.1.dr.lt; omega) _).setCell (by have := HN.out; show n0 ≤ b2; omega) _
      clear mkC rP mkD hP2 hN2 hE2 HV2
      go_wp2_with fail
      rw [← haP]
      clear haP
      go_meet
      case rel => exact HV3
    · have hfi : (d.form : Int) % 4 = 3 := by omega
      have HF4 := Lib.hid hf4; clear hf4
      obtain ⟨re2, im2, e2, f2, g2⟩ := cmul_real fl_two HWU.out (by omega) (by omega) (by omega) (by omega)
      have m2 : ∀ t w, (binOp .mul t (.complex .f64 4611686018427387904 0) (.complex .f64 wU 0)).run Tryz.prog w = .ok (.complex .f64 re2 im2) w := fun t w => run_complex_mul w t 4611686018427387904 0 wU 0 re2 im2 e2
      clear e2
      obtain ⟨re3, im3, e3, f3, g3⟩ := cmul_real fl_three HWU.out (by omega) (by omega) (by omega) (by omega)
      have m3 : ∀ t w, (binOp .mul t (.complex .f64 4613937818241073152 0) (.complex .f64 wU 0)).run Tryz.prog w = .ok (.complex .f64 re3 im3) w := fun t w => run_complex_mul w t 4613937818241073152 0 wU 0 re3 im3 e3
      clear e3
      obtain ⟨re4, im4, e4, f4, g4⟩ := cmul_real fl_four HWU.out (by omega) (by omega) (by omega) (by omega)
      have m4 : ∀ t w, (binOp .mul t (.complex .f64 4616189618054758400 0) (.complex .f64 wU 0)).run Tryz.prog w = .ok (.complex .f64 re4 im4) w := fun t w => run_complex_mul w t 4616189618054758400 0 wU 0 re4 im4 e4
      clear e4
      obtain ⟨rap, iap, eap, fap, gap⟩ := cadd_any f3 g3 fl_zero HWU.out (by omega) (by omega)
      have sp : ∀ t w, (binOp .add t (.complex .f64 re3 im3) (.complex .f64 0 wU)).run Tryz.prog w = .ok (.complex .f64 rap iap) w := fun t w => run_complex_sum w .add (Or.inl rfl) t .f64 re3 im3 0 wU rap iap eap
      clear eap
      obtain ⟨raq, iaq, eaq, faq, gaq⟩ := csub_any f3 g3 fl_zero HWU.out (by omega) (by omega)
      have sq : ∀ t w, (binOp .sub t (.complex .f64 re3 im3) (.complex .f64 0 wU)).run Tryz.prog w = .ok (.complex .f64 raq iaq) w := fun t w => run_complex_sum w .sub (Or.inr rfl) t .f64 re3 im3 0 wU raq iaq eaq
      clear eaq
      obtain ⟨rar, iar, ear, far, gar⟩ := cadd_any f4 g4 fl_zero HWU.out (by omega) (by omega)
      have sr : ∀ t w, (binOp .add t (.complex .f64 re4 im4) (.complex .f64 0 wU)).run Tryz.prog w = .ok (.complex .f64 rar iar) w := fun t w => run_complex_sum w .add (Or.inl rfl) t .f64 re4 im4 0 wU rar iar ear
      clear ear
      obtain ⟨rat, iat, eat, fat, gat⟩ := csub_any f4 g4 fl_zero HWU.out (by omega) (by omega)
      have st : ∀ t w, (binOp .sub t (.complex .f64 re4 im4) (.complex .f64 0 wU)).run Tryz.prog w = .ok (.complex .f64 rat iat) w := fun t w => run_complex_sum w .sub (Or.inr rfl) t .f64 re4 im4 0 wU rat iat eat
      clear eat
      have HQ2 : Hid (Fl 0 _ _ ∧ Fl 0 _ _) := ⟨f2, g2⟩
      have HQp : Hid (Fl 0 _ _ ∧ Fl 0 _ _) := ⟨fap, gap⟩
      have HQq : Hid (Fl 0 _ _ ∧ Fl 0 _ _) := ⟨faq, gaq⟩
      have HQr : Hid (Fl 0 _ _ ∧ Fl 0 _ _) := ⟨far, gar⟩
      have HQt : Hid (Fl 0 _ _ ∧ Fl 0 _ _) := ⟨fat, gat⟩
      clear f2 fap faq far fat g2 gap gaq gar gat f3 g3 f4 g4
      have mkA := HM.out.fresh ((Below.refl _ _).alloc (Nat.le_refl _) (.cells #[.complex .f64 0 0, .complex .f64 wU 0, .complex .f64 re2 im2, .complex .f64 rap iap, .complex .f64 raq iaq, .complex .f64 rar iar, .complex .f64 rat iat] 36))
      have rN := Row.new W0 36 #[.complex .f64 0 0, .complex .f64 wU 0, .complex .f64 re2 im2, .complex .f64 rap iap, .complex .f64 raq iaq, .complex .f64 rar iar, .complex .f64 rat iat]
      have z0 := mkA.lay.cell 0; have z1 := mkA.lay.frozen 0
      simp only [List.getElem?_toArray, List.getElem?_cons_zero] at z0
      obtain ⟨aN, haN⟩ : ∃ n, n = W0.heap.size := ⟨_, rfl⟩
      rw [← haN] at rN
      have mkB : Mk ((W0.alloc (.cells #[.complex .f64 0 0, .complex .f64 wU 0, .complex .f64 re2 im2, .complex .f64 rap iap, .complex .f64 raq iaq, .complex .f64 rar iar, .complex .f64 rat iat] 36)).setCell ⟨b2, 0, none⟩ (.slice (some ⟨aN, 0, none⟩) 7 7)) n0 b1 b2 #[.int .u8 (d.form : Int), .int .u8 (d.len : Int), .int .u8 (d.speed : Int), .int .u16 (d.mute : Int), .int .u16 (d.wait : Int), .int .u8 (d.cancel : Int), .int .u8 (d.stay : Int), .int .u8 (d.join : Int), .slice Ar kr cr] #[.slice (some ⟨aN, 0, none⟩) 7 7, .slice none 0 0, .slice none 0 0, .slice none 0 0, .slice none 0 0, .int .i64 0, .int .i64 0, .int .i64 0, .int .i64 0, .int .i64 0] := mkA.set 0 (.slice (some ⟨aN, 0, none⟩) 7 7)
      have hne : aN ≠ b2 := by have := HM.out.lay.lt; omega
      have rN2 := rN.far (p := ⟨b2, 0, none⟩) hne (.slice (some ⟨aN, 0, none⟩) 7 7)
      have blB : Below n0 w ((W0.alloc (.cells #[.complex .f64 0 0, .complex .f64 wU 0, .complex .f64 re2 im2, .complex .f64 rap iap, .complex .f64 raq iaq, .complex .f64 rar iar, .complex .f64 rat iat] 36)).setCell ⟨b2, 0, none⟩ (.slice (some ⟨aN, 0, none⟩) 7 7)) := (HB.out.alloc (by have := HM.out.dr.lt; omega) _).setCell (by have := HN.out; show n0 ≤ b2; omega) _
      have HV1 : Hid (Mk _ n0 b1 b2 #[.int .u8 (d.form : Int), .int .u8 (d.len : Int), .int .u8 (d.speed : Int), .int .u16 (d.mute : Int), .int .u16 (d.wait : Int), .int .u8 (d.cancel : Int), .int .u8 (d.stay : Int), .int .u8 (d.join : Int), .slice Ar kr cr] #[.slice (some ⟨aN, 0, none⟩) 7 7, .slice none 0 0, .slice none 0 0, .slice none 0 0, .slice none 0 0, .int .i64 0, .int .i64 0, .int .i64 0, .int .i64 0, .int .i64 0] ∧ Row _ aN 36 #[.complex .f64 0 0, .complex .f64 wU 0, .complex .f64 re2 im2, .complex .f64 rap iap, .complex .f64 raq iaq, .complex .f64 rar iar, .complex .f64 rat iat] ∧ Below n0 w _) := ⟨mkB, rN2, blB⟩
      clear mkA rN mkB hne rN2 blB
      go_upto_region 8 with (fail)
      rw [← haN]
      clear haN z0 z1
      generalize (W0.alloc (.cells #[.complex .f64 0 0, .complex .f64 wU 0, .complex .f64 re2 im2, .complex .f64 rap iap, .complex .f64 raq iaq, .complex .f64 rar iar, .complex .f64 rat iat] 36)).setCell ⟨b2, 0, none⟩ (.slice (some ⟨aN, 0, none⟩) 7 7) = V1 at *
      have rE := Row.new V1 58 #[.int .i64 0, .int .i64 1, .int .i64 2, .int .i64 1, .int .i64 2, .int .i64 3, .int .i64 2, .int .i64 4, .int .i64 3, .int .i64 5, .int .i64 4, .int .i64 6]
      obtain ⟨aE, haE⟩ : ∃ n, n = V1.heap.size := ⟨_, rfl⟩
      rw [← haE] at rE
      have HV2 : Hid (Mk (V1.alloc (.cells #[.int .i64 0, .int .i64 1, .int .i64 2, .int .i64 1, .int .i64 2, .int .i64 3, .int .i64 2, .int .i64 4, .int .i64 3, .int .i64 5, .int .i64 4, .int .i64 6] 58)) n0 b1 b2 #[.int .u8 (d.form : Int), .int .u8 (d.len : Int), .int .u8 (d.speed : Int), .int .u16 (d.mute : Int), .int .u16 (d.wait : Int), .int .u8 (d.cancel : Int), .int .u8 (d.stay : Int), .int .u8 (d.join : Int), .slice Ar kr cr] #[.slice (some ⟨aN, 0, none⟩) 7 7, .slice none 0 0, .slice none 0 0, .slice none 0 0, .slice none 0 0, .int .i64 0, .int .i64 0, .int .i64 0, .int .i64 0, .int .i64 0] ∧ Row (V1.alloc (.cells #[.int .i64 0, .int .i64 1, .int .i64 2, .int .i64 1, .int .i64 2, .int .i64 3, .int .i64 2, .int .i64 4, .int .i64 3, .int .i64 5, .int .i64 4, .int .i64 6] 58)) aN 36 #[.complex .f64 0 0, .complex .f64 wU 0, .complex .f64 re2 im2, .complex .f64 rap iap, .complex .f64 raq iaq, .complex .f64 rar iar, .complex .f64 rat iat] ∧ Row (V1.alloc (.cells #[.int .i64 0, .int .i64 1, .int .i64 2, .int .i64 1, .int .i64 2, .int .i64 3, .int .i64 2, .int .i64 4, .int .i64 3, .int .i64 5, .int .i64 4, .int .i64 6] 58)) aE 58 #[.int .i64 0, .int .i64 1, .int .i64 2, .int .i64 1, .int .i64 2, .int .i64 3, .int .i64 2, .int .i64 4, .int .i64 3, .int .i64 5, .int .i64 4, .int .i64 6] ∧ Below n0 w (V1.alloc (.cells #[.int .i64 0, .int .i64 1, .int .i64 2, .int .i64 1, .int .i64 2, .int .i64 3, .int .i64 2, .int .i64 4, .int .i64 3, .int .i64 5, .int .i64 4, .int .i64 6] 58))) :=
        ⟨HV1.out.1.fresh ((Below.refl _ _).alloc (Nat.le_refl _) _), HV1.out.2.1.alloc _, rE, HV1.out.2.2.alloc (by have := HV1.out.1.dr.lt; omega) _⟩
      clear rE HV1
      go_upto_region 9 with (fail)
      rw [← haE]
      clear haE
      generalize V1.alloc (.cells #[.int .i64 0, .int .i64 1, .int .i64 2, .int .i64 1, .int .i64 2, .int .i64 3, .int .i64 2, .int .i64 4, .int .i64 3, .int .i64 5, .int .i64 4, .int .i64 6] 58) = V2 at *
      have mkC := HV2.out.1.fresh ((Below.refl _ _).alloc (Nat.le_refl _) (.cells #[.int .i64 2, .int .i64 1, .int .i64 3, .int .i64 2] 41))
      have rP := Row.new V2 41 #[.int .i64 2, .int .i64 1, .int .i64 3, .int .i64 2]
      have y0 := mkC.lay.cell 3; have y1 := mkC.lay.frozen 3
      simp only [List.getElem?_toArray, List.getElem?_cons_zero, List.getElem?_cons_succ] at y0
      obtain ⟨aP, haP⟩ : ∃ n, n = V2.heap.size := ⟨_, rfl⟩
      rw [← haP] at rP
      have mkD : Mk ((V2.alloc (.cells #[.int .i64 2, .int .i64 1, .int .i64 3, .int .i64 2] 41)).setCell ⟨b2, 3, none⟩ (.slice (some ⟨aP, 0, none⟩) 1 1)) n0 b1 b2 #[.int .u8 (d.form : Int), .int .u8 (d.len : Int), .int .u8 (d.speed : Int), .int .u16 (d.mute : Int), .int .u16 (d.wait : Int), .int .u8 (d.cancel : Int), .int .u8 (d.stay : Int), .int .u8 (d.join : Int), .slice Ar kr cr] #[.slice (some ⟨aN, 0, none⟩) 7 7, .slice none 0 0, .slice none 0 0, .slice (some ⟨aP, 0, none⟩) 1 1, .slice none 0 0, .int .i64 0, .int .i64 0, .int .i64 0, .int .i64 0, .int .i64 0] := mkC.set 3 (.slice (some ⟨aP, 0, none⟩) 1 1)
      have hP2 : aP ≠ b2 := by have := HV2.out.1.lay.lt; omega
      have hN2 : aN ≠ b2 := Row.ne HV2.out.2.1 HV2.out.1.lay (by decide)
      have hE2 : aE ≠ b2 := Row.ne HV2.out.2.2.1 HV2.out.1.lay (by decide)
      have HV3 : Hid (Sw w ((V2.alloc (.cells #[.int .i64 2, .int .i64 1, .int .i64 3, .int .i64 2] 41)).setCell ⟨b2, 3, none⟩ (.slice (some ⟨aP, 0, none⟩) 1 1)) n0 b1 b2 #[.int .u8 (d.form : Int), .int .u8 (d.len : Int), .int .u8 (d.speed : Int), .int .u16 (d.mute : Int), .int .u16 (d.wait : Int), .int .u8 (d.cancel : Int), .int .u8 (d.stay : Int), .int .u8 (d.join : Int), .slice Ar kr cr] d (.slice (some ⟨aE, 0, none⟩) 6 6)) := by
        refine ⟨.slice (some ⟨aN, 0, none⟩) 7 7, .slice (some ⟨aP, 0, none⟩) 1 1, mkD, ?_, ?_, ?_, ?_⟩
        · have e : makeNodes d = [(0, 0), ((unit d : Int), 0), (2 * (unit d : Int), 0), (3 * (unit d : Int), (unit d : Int)), (3 * (unit d : Int), -(unit d : Int)), (4 * (unit d : Int), (unit d : Int)), (4 * (unit d : Int), -(unit d : Int))] := by unfold makeNodes; rw [HF4.out]; rfl
          rw [e]
          refine ⟨[(0, 0), (wU, 0), (re2, im2), (rap, iap), (raq, iaq), (rar, iar), (rat, iat)], Tl.row 7 ((HV2.out.2.1.alloc _).far (p := ⟨b2, 3, none⟩) hN2 _) rfl (fun j u hu => by simpa [nvals] using hu), rfl, fun j h1 h2 => ?_⟩
          match j, h1, h2 with
          | 0, _, _ => exact ⟨fl_zero, fl_zero⟩
          | 1, _, _ => exact ⟨HWU.out, fl_zero⟩
          | 2, _, _ => exact ⟨by have := HQ2.out.1; simpa using this, by have := HQ2.out.2; simpa using this⟩
          | 3, _, _ => exact ⟨by have := HQp.out.1; simpa using this, by have := HQp.out.2; simpa using this⟩
          | 4, _, _ => exact ⟨by have := HQq.out.1; simpa using this, by have := HQq.out.2; simpa using this⟩
          | 5, _, _ => exact ⟨by have := HQr.out.1; simpa using this, by have := HQr.out.2; simpa using this⟩
          | 6, _, _ => exact ⟨by have := HQt.out.1; simpa using this, by have := HQt.out.2; simpa using this⟩
        · have e : makePoints d = [(2, 1, 3, 2)] := by unfold makePoints; rw [HF4.out]; rfl
          rw [e]
          refine ⟨_, _, rfl, fun _ => ⟨aP, _, (0, 0), rfl, rP.far (p := ⟨b2, 3, none⟩) hP2 _, fun j hj => ?_⟩⟩
          match j, hj with
          | 0, _ => exact ⟨rfl, rfl, rfl, rfl⟩
        · have e : makeEnds d = [(0, 1), (2, 1), (2, 3), (2, 4), (3, 5), (4, 6)] := by unfold makeEnds; rw [HF4.out]; rfl
          rw [e]
          refine ⟨_, _, rfl, fun _ => ⟨aE, _, (0, 0), rfl, (HV2.out.2.2.1.alloc _).far (p := ⟨b2, 3, none⟩) hE2 _, fun j hj => ?_⟩⟩
          match j, hj with
          | 0, _ => exact ⟨rfl, rfl⟩
          | 1, _ => exact ⟨rfl, rfl⟩
          | 2, _ => exact ⟨rfl, rfl⟩
          | 3, _ => exact ⟨rfl, rfl⟩
          | 4, _ => exact ⟨rfl, rfl⟩
          | 5, _ => exact ⟨rfl, rfl⟩
        · exact (HV2.out.2.2.2.alloc (by have := HV2.out.1.dr.lt; omega) _).setCell (by have := HN.out; show n0 ≤ b2; omega) _
      clear mkC rP mkD hP2 hN2 hE2 HV2
      go_wp2_with fail
      rw [← haP]
      clear haP
      go_meet
      case rel => exact HV3
  case rest =>
  obtain ⟨vN, vQ, hMk, hN, hQ, hE, hBl⟩ := hcut.out
  obtain ⟨A0, c0, hA⟩ := hN.slice
  subst hA
  obtain ⟨A3, c3, hA⟩ := hQ.slice
  subst hA
  have HEN := Lib.hid hE
  obtain ⟨Ae, ce, hA, -⟩ := hE
  subst hA
  clear hcut
  obtain ⟨k0, hk0⟩ : ∃ k, (makeNodes d).length = k := ⟨_, rfl⟩
  obtain ⟨k3, hk3⟩ : ∃ k, (makePoints d).length = k := ⟨_, rfl⟩
  obtain ⟨ne, hne⟩ : ∃ k, (makeEnds d).length = k := ⟨_, rfl⟩
  rw [hk0, hk3] at hMk
  rw [hk0] at hN
  rw [hk3] at hQ
  rw [hne] at HEN ⊢
  have hneb := makeEnds_len d
  rw [hne] at hneb
  have HNE := Lib.hid hne
  have HMK := Lib.hid hMk; have HNO := Lib.hid hN; have HQO := Lib.hid hQ; have HBL := Lib.hid hBl
  clear hk0 hk3 hne hMk hN hQ hBl
  obtain ⟨V, hV⟩ : ∃ x, x = wc := ⟨_, rfl⟩
  subst hV
  obtain ⟨j5, hj5, hy50, hy51, hy52⟩ := info_parts Tryz.info39
  have HSZ : Hid (n0 < V.heap.size ∧ b1 < V.heap.size ∧ b2 < V.heap.size) := ⟨HMK.out.dr.lt, HMK.out.res.lt, HMK.out.lay.lt⟩
  go_wp2_with fail
  go_loopw [11] (fun k wr => ∃ i : Nat, i ≤ ne ∧ k = .int .i64 i ∧ Hid (∃ v1, Mk wr n0 b1 b2 #[.int .u8 (d.form : Int), .int .u8 (d.len : Int), .int .u8 (d.speed : Int), .int .u16 (d.mute : Int), .int .u16 (d.wait : Int), .int .u8 (d.cancel : Int), .int .u8 (d.stay : Int), .int .u8 (d.join : Int), .slice Ar kr cr] #[.slice A0 k0 c0, v1, .slice none 0 0, .slice A3 k3 c3, .slice none 0 0, .int .i64 0, .int .i64 0, .int .i64 0, .int .i64 0, .int .i64 0] ∧ wr.ownsRow V.heap.size 39 3 v1 i (scells (makeSecs d (makeEnds d) i)) ∧ KeptL [b2] V wr)) (fun k _ => ne - (intOf k).toNat)
  case atStart => exact ⟨0, Nat.zero_le _, rfl, .slice none 0 0, HMK.out, World.ownsRow_nil _ _ _ _, KeptL.refl _ _⟩
  case round =>
    obtain ⟨i, hi, rfl, HJ⟩ := hrel
    obtain ⟨v1, hMk, hown, hKp⟩ := HJ.out
    obtain ⟨Av, cv, hv0⟩ := own_slice hown
    subst hv0
    by_cases hlt : i < ne
    · have hE2 := HEN.out.kept hKp (Other.one HMK.out.lay (by decide))
      obtain ⟨Ae', ce', hv', hx⟩ := hE2
      obtain ⟨be, cur, fr, hAe, hh, hfill⟩ := hx (by have := HNE.out; omega)
      injection hv' with q1 q2 q3
      subst q1; subst hAe
      have hie : i < (makeEnds d).length := by have := HNE.out; omega
      obtain ⟨fe1, fe2⟩ := hfill i hie
      have HX : Hid ((makeEnds d).getD i (0, 0) = (makeEnds d)[i]) := by show _ = _; simp [List.getD, hie]
      obtain ⟨x, hxx⟩ : ∃ x, (makeEnds d)[i].1 = x := ⟨_, rfl⟩
      obtain ⟨y, hyy⟩ : ∃ x, (makeEnds d)[i].2 = x := ⟨_, rfl⟩
      rw [hxx] at fe1
      rw [hyy] at fe2
      have HXY : Hid ((makeEnds d)[i].1 = x ∧ (makeEnds d)[i].2 = y) := ⟨hxx, hyy⟩
      obtain ⟨r, HR⟩ : ∃ r, Hid (i % 3 = r ∧ r < 3) := ⟨_, rfl, Nat.mod_lt _ (by decide)⟩
      have hr3 : r < 3 := HR.out.2
      have HSE : Hid (scells (makeSecs d (makeEnds d) i) ++ [.int .i64 (2 * (unit d : Int) + (r : Int)), .int .i64 x, .int .i64 y] = scells (makeSecs d (makeEnds d) (i + 1))) := by
        show _ = _
        have e : makeSecs d (makeEnds d) (i + 1) = makeSecs d (makeEnds d) i ++ [(2 * (unit d : Int) + ((i % 3 : Nat) : Int), ((makeEnds d).getD i (0, 0)).1, ((makeEnds d).getD i (0, 0)).2)] := rfl
        rw [e, HR.out.1, HX.out, HXY.out.1, HXY.out.2]
        exact scells_snoc _ (2 * (unit d : Int) + (r : Int), x, y)
      have d1 : wr.drew.cell? ⟨be, i * 2, none⟩ = some (.int .i64 x) := by show wr.cell? _ = _; simp [World.cell?, hh, fe1]
      have d2 : wr.drew.cell? ⟨be, i * 2 + 1, none⟩ = some (.int .i64 y) := by show wr.cell? _ = _; simp [World.cell?, hh, fe2]
      have HMD : Hid (Mk wr.drew n0 b1 b2 #[.int .u8 (d.form : Int), .int .u8 (d.len : Int), .int .u8 (d.speed : Int), .int .u16 (d.mute : Int), .int .u16 (d.wait : Int), .int .u8 (d.cancel : Int), .int .u8 (d.stay : Int), .int .u8 (d.join : Int), .slice Ar kr cr] #[.slice A0 k0 c0, .slice Av i cv, .slice none 0 0, .slice A3 k3 c3, .slice none 0 0, .int .i64 0, .int .i64 0, .int .i64 0, .int .i64 0, .int .i64 0]) := ⟨hMk.dr, hMk.res, hMk.lay, hMk.ne⟩
      have d3 := HMD.out.lay.cell 1
      simp only [List.getElem?_toArray, List.getElem?_cons_zero, List.getElem?_cons_succ] at d3
      have HOD : Hid (wr.drew.ownsRow V.heap.size 39 3 (.slice Av i cv) i (scells (makeSecs d (makeEnds d) i))) := hown
      have HKD : Hid (KeptL [b2] V wr.drew) := ⟨hKp.os, hKp.tape, hKp.output, hKp.size, hKp.block⟩
      have hm3 : (i : Int).tmod 3 = (r : Int) := by rw [Int.tmod_eq_emod_of_nonneg (by omega)]; have := HR.out.1; omega
      have hm4 : (i : Int) % 3 = (r : Int) := by have := HR.out.1; omega
      have w1 : IntKind.i64.wrap (2 * (unit d : Int)) = 2 * (unit d : Int) := IntWalk.i64_in _ (by omega)
      have w2 : IntKind.i64.wrap (2 * (unit d : Int) + (r : Int)) = 2 * (unit d : Int) + (r : Int) := IntWalk.i64_in _ (by omega)
      clear hMk hown hKp HJ hx q2 q3 hh hfill fe1 fe2 hxx hyy
      have hbe : be < V.heap.size := by
        obtain ⟨A9, c9, e9, x9⟩ := HEN.out
        obtain ⟨b9, o9, f9, h9, hh9, _⟩ := x9 (by have := HNE.out; omega)
        injection e9 with q1 _ _
        rw [h9] at q1
        injection q1 with q1
        injection q1 with q1
        subst q1
        exact (Array.getElem?_eq_some_iff.mp hh9).1
      have hi0 : (0 : Int) ≤ (i : Int) := Int.natCast_nonneg _
      have hi1 : (i : Int) < (ne : Int) := by omega
      go_upto_region 31 with (fail)
      refine AnyBut.region (fun w' => w'.cell? ⟨b2, 1, none⟩ = some (.slice Av i cv) ∧ w'.cell? ⟨be, i * 2, none⟩ = some (.int .i64 x) ∧ w'.cell? ⟨be, i * 2 + 1, none⟩ = some (.int .i64 y)) 21 (by kernel_rfl) ?_
      refine AnyBut.take 0 rfl (by kernel_rfl) (by kernel_rfl) (by kernel_rfl) (by kernel_rfl) (by decide) (fun _ _ _ h => h) (yields_of (by rfl) (fun w9 hS => (by obtain ⟨s1, s2, s3⟩ := hS; go_simp; try rfl))) ⟨d3, d1, d2⟩ ?_
      refine AnyBut.take 1 rfl (by kernel_rfl) (by kernel_rfl) (by kernel_rfl) (by kernel_rfl) (by decide) (fun _ _ _ h => h) (yields_of (by rfl) (fun w9 hS => (by obtain ⟨s1, s2, s3⟩ := hS; go_simp; try rfl))) ⟨d3, d1, d2⟩ ?_
      refine AnyBut.take 2 rfl (by kernel_rfl) (by kernel_rfl) (by kernel_rfl) (by kernel_rfl) (by decide) (fun _ _ _ h => h) (yields_of (by rfl) (fun w9 hS => (by obtain ⟨s1, s2, s3⟩ := hS; go_simp; try rfl))) ⟨d3, d1, d2⟩ ?_
      refine AnyBut.take 3 rfl (by kernel_rfl) (by kernel_rfl) (by kernel_rfl) (by kernel_rfl) (by decide) (fun _ _ _ h => h) (yields_of (by rfl) (fun w9 hS => (by obtain ⟨s1, s2, s3⟩ := hS; go_simp; try rfl))) ⟨d3, d1, d2⟩ ?_
      refine AnyBut.take 4 rfl (by kernel_rfl) (by kernel_rfl) (by kernel_rfl) (by kernel_rfl) (by decide) (fun _ _ _ h => h) (yields_of (by rfl) (fun w9 hS => (by obtain ⟨s1, s2, s3⟩ := hS; go_simp; try rfl))) ⟨d3, d1, d2⟩ ?_
      refine AnyBut.take 5 rfl (by kernel_rfl) (by kernel_rfl) (by kernel_rfl) (by kernel_rfl) (by decide) (fun _ _ _ h => h) (yields_of (by rfl) (fun w9 hS => (by obtain ⟨s1, s2, s3⟩ := hS; go_simp; try rfl))) ⟨d3, d1, d2⟩ ?_
      refine AnyBut.take 6 rfl (by kernel_rfl) (by kernel_rfl) (by kernel_rfl) (by kernel_rfl) (by decide) (fun _ _ _ h => h) (yields_of (by rfl) (fun w9 hS => (by obtain ⟨s1, s2, s3⟩ := hS; go_simp; try rfl))) ⟨d3, d1, d2⟩ ?_
      refine AnyBut.take 7 rfl (by kernel_rfl) (by kernel_rfl) (by kernel_rfl) (by kernel_rfl) (by decide) (fun _ _ _ h => h) (yields_of (by rfl) (fun w9 hS => (by obtain ⟨s1, s2, s3⟩ := hS; go_simp; try rfl))) ⟨d3, d1, d2⟩ ?_
      refine AnyBut.take 8 rfl (by kernel_rfl) (by kernel_rfl) (by kernel_rfl) (by kernel_rfl) (by decide) (fun _ _ _ h => h) (yields_of (by rfl) (fun w9 hS => (by obtain ⟨s1, s2, s3⟩ := hS; go_simp; try rfl))) ⟨d3, d1, d2⟩ ?_
      refine AnyBut.take 9 rfl (by kernel_rfl) (by kernel_rfl) (by kernel_rfl) (by kernel_rfl) (by decide) (fun _ _ _ h => h) (yields_of (by rfl) (fun w9 hS => (by obtain ⟨s1, s2, s3⟩ := hS; go_simp; try rfl))) ⟨d3, d1, d2⟩ ?_
      refine AnyBut.take 10 rfl (by kernel_rfl) (by kernel_rfl) (by kernel_rfl) (by kernel_rfl) (by decide) (fun _ _ _ h => h) (yields_of (by rfl) (fun w9 hS => (by obtain ⟨s1, s2, s3⟩ := hS; go_simp; try rfl))) ⟨d3, d1, d2⟩ ?_
      refine AnyBut.take 11 rfl (by kernel_rfl) (by kernel_rfl) (by kernel_rfl) (by kernel_rfl) (by decide) (fun _ _ _ h => h) (yields_of (by rfl) (fun w9 hS => (by obtain ⟨s1, s2, s3⟩ := hS; go_simp; try rfl))) ⟨d3, d1, d2⟩ ?_
      refine AnyBut.take 12 rfl (by kernel_rfl) (by kernel_rfl) (by kernel_rfl) (by kernel_rfl) (by decide) (fun _ _ _ h => h) (yields_of (by rfl) (fun w9 hS => (by obtain ⟨s1, s2, s3⟩ := hS; go_simp; try rfl))) ⟨d3, d1, d2⟩ ?_
      refine AnyBut.take 13 rfl (by kernel_rfl) (by kernel_rfl) (by kernel_rfl) (by kernel_rfl) (by decide) (fun _ _ _ h => h) (yields_of (by rfl) (fun w9 hS => (by obtain ⟨s1, s2, s3⟩ := hS; go_simp; try rfl))) ⟨d3, d1, d2⟩ ?_
      refine AnyBut.take 14 rfl (by kernel_rfl) (by kernel_rfl) (by kernel_rfl) (by kernel_rfl) (by decide) (fun _ _ _ h => h) (yields_of (by rfl) (fun w9 hS => (by obtain ⟨s1, s2, s3⟩ := hS; go_simp; try rfl))) ⟨d3, d1, d2⟩ ?_
      refine AnyBut.take 15 rfl (by kernel_rfl) (by kernel_rfl) (by kernel_rfl) (by kernel_rfl) (by decide) (fun _ _ _ h => h) (yields_of (by rfl) (fun w9 hS => (by obtain ⟨s1, s2, s3⟩ := hS; go_simp; try rfl))) ⟨d3, d1, d2⟩ ?_
      refine AnyBut.take 16 rfl (by kernel_rfl) (by kernel_rfl) (by kernel_rfl) (by kernel_rfl) (by decide) (fun _ _ _ h => h) (yields_of (by rfl) (fun w9 hS => (by obtain ⟨s1, s2, s3⟩ := hS; go_simp; try rfl))) ⟨d3, d1, d2⟩ ?_
      refine AnyBut.take 17 rfl (by kernel_rfl) (by kernel_rfl) (by kernel_rfl) (by kernel_rfl) (by decide) (fun _ _ _ h => h) (yields_of (by rfl) (fun w9 hS => (by obtain ⟨s1, s2, s3⟩ := hS; go_simp; try rfl))) ⟨d3, d1, d2⟩ ?_
      refine AnyBut.one 18 rfl (by kernel_rfl) (by rfl) ?_
      go_simp
      refine ⟨⟨cell_alloc d3, cell_alloc d1, cell_alloc d2⟩, ?_⟩
      have HMA : Hid (Mk ((wr.alloc (.cells #[.int .i64 (2 * (unit d : Int) + (r : Int)), .int .i64 x, .int .i64 y] 39)).drew) n0 b1 b2 #[.int .u8 (d.form : Int), .int .u8 (d.len : Int), .int .u8 (d.speed : Int), .int .u16 (d.mute : Int), .int .u16 (d.wait : Int), .int .u8 (d.cancel : Int), .int .u8 (d.stay : Int), .int .u8 (d.join : Int), .slice Ar kr cr] #[.slice A0 k0 c0, .slice Av i cv, .slice none 0 0, .slice A3 k3 c3, .slice none 0 0, .int .i64 0, .int .i64 0, .int .i64 0, .int .i64 0, .int .i64 0]) := by
        have h := HMD.out.fresh ((Below.refl wr.drew.heap.size wr.drew).alloc (Nat.le_refl _) (.cells #[.int .i64 (2 * (unit d : Int) + (r : Int)), .int .i64 x, .int .i64 y] 39))
        exact ⟨h.dr, h.res, h.lay, h.ne⟩
      have HOA : Hid (((wr.alloc (.cells #[.int .i64 (2 * (unit d : Int) + (r : Int)), .int .i64 x, .int .i64 y] 39)).drew).ownsRow V.heap.size 39 3 (.slice Av i cv) i (scells (makeSecs d (makeEnds d) i))) := HOD.out.alloc (.cells #[.int .i64 (2 * (unit d : Int) + (r : Int)), .int .i64 x, .int .i64 y] 39)
      have HKA : Hid (KeptL [b2] V ((wr.alloc (.cells #[.int .i64 (2 * (unit d : Int) + (r : Int)), .int .i64 x, .int .i64 y] 39)).drew)) := by
        have h := HKD.out.alloc (.cells #[.int .i64 (2 * (unit d : Int) + (r : Int)), .int .i64 x, .int .i64 y] 39)
        exact ⟨h.os, h.tape, h.output, h.size, h.block⟩
      have HNA : Hid (∀ (j : Nat) (u : Value), [.int .i64 (2 * (unit d : Int) + (r : Int)), .int .i64 x, .int .i64 y][j]? = some u → ((wr.alloc (.cells #[.int .i64 (2 * (unit d : Int) + (r : Int)), .int .i64 x, .int .i64 y] 39)).drew).cell? ((⟨wr.heap.size, 0, none⟩ : Addr).add j) = some u) := row_new wr 39 [.int .i64 (2 * (unit d : Int) + (r : Int)), .int .i64 x, .int .i64 y]
      have HEA : Hid (((wr.alloc (.cells #[.int .i64 (2 * (unit d : Int) + (r : Int)), .int .i64 x, .int .i64 y] 39)).drew).cell? ⟨be, i * 2, none⟩ = some (.int .i64 x) ∧ ((wr.alloc (.cells #[.int .i64 (2 * (unit d : Int) + (r : Int)), .int .i64 x, .int .i64 y] 39)).drew).cell? ⟨be, i * 2 + 1, none⟩ = some (.int .i64 y)) := ⟨cell_alloc d1, cell_alloc d2⟩
      generalize (wr.alloc (.cells #[.int .i64 (2 * (unit d : Int) + (r : Int)), .int .i64 x, .int .i64 y] 39)).drew = wA at *
      generalize wr.heap.size = gA at *
      clear HMD HOD HKD d1 d2 d3
      refine AnyBut.one 19 rfl (by kernel_rfl) (by rfl) ?_
      refine wp_append_lies wA (.tmp 157) (.tmp 174) 29 rfl V.heap.size 39 j5 (.agg #[.int .i64 0, .int .i64 0, .int .i64 0]) 3 24 Tryz.underlying29 hj5 hy50 hy51 hy52 rfl (by decide) (.slice Av i cv) i _ (by rfl) HOA.out ⟨gA, 0, none⟩ 1 1 [.int .i64 (2 * (unit d : Int) + (r : Int)), .int .i64 x, .int .i64 y] (by rfl) rfl HNA.out (by intro u hu; simp at hu; rcases hu with rfl | rfl | rfl <;> rfl) (by decide) (by unfold maxLen; omega) (by omega) HKA.out.size wA.heap.size rfl ?_
      intro g5 c5 w5 hown5 hgrow5 _ _
      rw [HSE.out] at hown5
      have hrb : ∀ k, (Value.slice Av i cv).ownBlock = some k → V.heap.size ≤ k := fun k hk => (HOA.out.lt k hk).1
      have mk5 := HMA.out.grown hgrow5 hrb HSZ.out
      have kp5 : KeptL [b2] V w5 := HKA.out.grown hgrow5 hrb
      have g0 := mk5.lay.cell 1; have z0 := mk5.lay.frozen 1
      simp only [List.getElem?_toArray, List.getElem?_cons_zero, List.getElem?_cons_succ] at g0
      have hbA : be < wA.heap.size := by have := HKA.out.size; omega
      have hbn : some be ≠ (Value.slice Av i cv).ownBlock := fun e => by have := hrb be e.symm; omega
      have g1 : w5.cell? ⟨be, i * 2, none⟩ = some (.int .i64 x) := by rw [hgrow5.cell_far ⟨be, i * 2, none⟩ hbA hbn]; exact HEA.out.1
      have g2 : w5.cell? ⟨be, i * 2 + 1, none⟩ = some (.int .i64 y) := by rw [hgrow5.cell_far ⟨be, i * 2 + 1, none⟩ hbA hbn]; exact HEA.out.2
      refine ⟨fun _ => ⟨g0, g1, g2⟩, ?_⟩
      have HNX : Hid (∃ v1, Mk (w5.setCell ⟨b2, 1, none⟩ (.slice (some ⟨g5, 0, none⟩) (i + 1) c5)) n0 b1 b2 #[.int .u8 (d.form : Int), .int .u8 (d.len : Int), .int .u8 (d.speed : Int), .int .u16 (d.mute : Int), .int .u16 (d.wait : Int), .int .u8 (d.cancel : Int), .int .u8 (d.stay : Int), .int .u8 (d.join : Int), .slice Ar kr cr] #[.slice A0 k0 c0, v1, .slice none 0 0, .slice A3 k3 c3, .slice none 0 0, .int .i64 0, .int .i64 0, .int .i64 0, .int .i64 0, .int .i64 0] ∧ (w5.setCell ⟨b2, 1, none⟩ (.slice (some ⟨g5, 0, none⟩) (i + 1) c5)).ownsRow V.heap.size 39 3 v1 (i + 1) (scells (makeSecs d (makeEnds d) (i + 1))) ∧ KeptL [b2] V (w5.setCell ⟨b2, 1, none⟩ (.slice (some ⟨g5, 0, none⟩) (i + 1) c5))) :=
        ⟨_, mk5.set 1 _, own_far (a := ⟨b2, 1, none⟩) hown5 (fun e => by have h1 := (hown5.lt b2 e).1; have h2 := HSZ.out; omega) _, kp5.set (by simp) _⟩
      clear hown5 hgrow5 hrb mk5 kp5 hm3 hm4 w1 w2 hbA hbn
      refine AnyBut.one 20 rfl (by kernel_rfl) (by rfl) ?_
      go_simp
      refine AnyBut.one 21 rfl (by kernel_rfl) (by rfl) ?_
      go_simp
      refine AnyBut.done (by kernel_rfl) ?_
      go_wp2_with fail
      go_roundw
      case rel => exact ⟨i + 1, by omega, by go_num, HNX⟩
      case measure => simp [intOf]; omega
    · obtain ⟨P, hP⟩ : ∃ x, x = wr := ⟨_, rfl⟩
      subst hP
      obtain ⟨k1, hk1⟩ : ∃ x, x = i := ⟨_, rfl⟩
      subst hk1
      have HIE : Hid (k1 = ne) := by show _ = _; omega
      have HM1 := Lib.hid hMk; have HO1 := Lib.hid hown; have HK1 := Lib.hid hKp
      clear hMk hown hKp HJ
      have HSP : Hid (n0 < P.heap.size ∧ b1 < P.heap.size ∧ b2 < P.heap.size) := ⟨HM1.out.dr.lt, HM1.out.res.lt, HM1.out.lay.lt⟩
      obtain ⟨i3, hi3, hz30, hz31, hz32⟩ := info_parts Tryz.info3
      obtain ⟨i6, hi6, hz60, hz61, hz62⟩ := info_parts Tryz.info42
      go_wp2_with fail
      go_loopw [12] (fun k wr => ∃ i : Nat, i ≤ ne ∧ k = .int .i64 i ∧ Hid (∃ v2, Mk wr n0 b1 b2 #[.int .u8 (d.form : Int), .int .u8 (d.len : Int), .int .u8 (d.speed : Int), .int .u16 (d.mute : Int), .int .u16 (d.wait : Int), .int .u8 (d.cancel : Int), .int .u8 (d.stay : Int), .int .u8 (d.join : Int), .slice Ar kr cr] #[.slice A0 k0 c0, .slice Av k1 cv, v2, .slice A3 k3 c3, .slice none 0 0, .int .i64 0, .int .i64 0, .int .i64 0, .int .i64 0, .int .i64 0] ∧ OwnRows wr P.heap.size v2 (makeParts d i) ∧ KeptL [b2] P wr)) (fun k _ => ne - (intOf k).toNat)
      case atStart => exact ⟨0, Nat.zero_le _, rfl, .slice none 0 0, HM1.out, OwnRows.nil _ _, KeptL.refl _ _⟩
      case round =>
        obtain ⟨i, hi, rfl, HJ⟩ := hrel
        obtain ⟨v2, hMk, ⟨vs, hor⟩, hKp⟩ := HJ.out
        obtain ⟨A2, c2, hv2⟩ := own_slice hor.own
        subst hv2
        have HMI := Lib.hid hMk; have HOR := Lib.hid hor; have HKI := Lib.hid hKp
        clear hMk hor hKp HJ
        have hvb : vs.length ≤ 8 := by have h1 := HOR.out.len; have h2 := (makeParts_le d i).1; omega
        by_cases hlt : i < ne
        · have f7 := HMI.out.dr.cell 7
          simp only [List.getElem?_toArray, List.getElem?_cons_zero, List.getElem?_cons_succ] at f7
          obtain ⟨r8, HR8⟩ : ∃ r, Hid (i % 8 = r ∧ r < 8) := ⟨_, rfl, Nat.mod_lt _ (by decide)⟩
          have hr8 : r8 < 8 := HR8.out.2
          have hm8 : (i : Int).tmod 8 = (r8 : Int) := by rw [Int.tmod_eq_emod_of_nonneg (by omega)]; have := HR8.out.1; omega
          have hm9 : (i : Int) % 8 = (r8 : Int) := by have := HR8.out.1; omega
          by_cases hj : joins d i = true
          · have hi0 : 0 < i := by unfold joins at hj; simp at hj; exact hj.1
            have hbit : d.join.testBit r8 = true := by unfold joins at hj; simp at hj; have := hj.2; rw [HR8.out.1] at this; exact this
            have HNX1 : Hid (makeParts d (i + 1) = putLast (makeParts d i) (i : Int)) := makeParts_join hj
            have hb2 := shr_bit_t d.join r8
            rw [hbit] at hb2
            clear hj
            go_upto_region 36 with (fail)
            have hpos := makeParts_pos d i hi0
            have HLEN := Lib.hid HOR.out.len
            obtain ⟨n, hn⟩ : ∃ n, vs.length = n + 1 := ⟨vs.length - 1, by have := HLEN.out; omega⟩
            rw [hn] at HMI HOR hvb
            have HN1 := Lib.hid hn
            obtain ⟨g2, HG2⟩ : ∃ g2, Hid (A2 = some ⟨g2, 0, none⟩ ∧ P.heap.size ≤ g2) := by
              rcases HOR.out.own.2 with ⟨e, e0⟩ | ⟨g2, cap2, cur2, e, hg2, _⟩
              · rw [hn] at e0; omega
              · injection e with e1 _ _
                exact ⟨g2, e1, hg2⟩
            have eA2 := HG2.out.1
            subst eA2
            have hg2P : P.heap.size ≤ g2 := HG2.out.2
            obtain ⟨xs, hxs⟩ : ∃ xs, (makeParts d i)[n]? = some xs := ⟨_, List.getElem?_eq_getElem (by have := HLEN.out; omega)⟩
            obtain ⟨u, hu⟩ : ∃ u, vs[n]? = some u := ⟨_, List.getElem?_eq_getElem (by omega)⟩
            have huo : wr.ownsRow P.heap.size 3 1 u xs.length (ivals xs) := by
              have := HOR.out.row n (by omega) (by have := HLEN.out; omega)
              rw [List.getElem?_eq_getElem (by omega)] at hu
              rw [List.getElem?_eq_getElem (by have := HLEN.out; omega)] at hxs
              rw [Option.some.inj hu, Option.some.inj hxs] at this
              exact this
            obtain ⟨Au, cu, hue⟩ := own_slice huo
            subst hue
            have hxl : xs.length ≤ 8 := by
              have := ((makeParts_le d i).2 xs (List.mem_of_getElem? hxs)).1
              omega
            have hown2 : wr.ownsRow P.heap.size 42 1 (.slice (some ⟨g2, 0, none⟩) (n + 1) c2) (n + 1) vs := by have := HOR.out.own; rw [hn] at this; exact this
            have d4 : wr.drew.cell? ⟨g2, n, none⟩ = some (.slice Au xs.length cu) := by show wr.cell? _ = _; rw [hown2.cellAt n (by omega)]; exact hu
            have HMD : Hid (Mk wr.drew n0 b1 b2 #[.int .u8 (d.form : Int), .int .u8 (d.len : Int), .int .u8 (d.speed : Int), .int .u16 (d.mute : Int), .int .u16 (d.wait : Int), .int .u8 (d.cancel : Int), .int .u8 (d.stay : Int), .int .u8 (d.join : Int), .slice Ar kr cr] #[.slice A0 k0 c0, .slice Av k1 cv, .slice (some ⟨g2, 0, none⟩) (n + 1) c2, .slice A3 k3 c3, .slice none 0 0, .int .i64 0, .int .i64 0, .int .i64 0, .int .i64 0, .int .i64 0]) := ⟨HMI.out.dr, HMI.out.res, HMI.out.lay, HMI.out.ne⟩
            have d3 := HMD.out.lay.cell 2
            simp only [List.getElem?_toArray, List.getElem?_cons_zero, List.getElem?_cons_succ] at d3
            have HXS := Lib.hid hxs; have HU := Lib.hid hu; have HUO := Lib.hid huo; have HO2 := Lib.hid hown2
            clear hn hxs hu huo hown2 hpos hb2 hbit hm8 hm9 f7
            have hn0' : (0 : Int) ≤ (n : Int) := Int.natCast_nonneg _
            have w1 : IntKind.i64.wrap ((n : Int) + 1 - 1) = (n : Int) := by rw [show (n : Int) + 1 - 1 = (n : Int) from by omega]; exact IntWalk.i64_in _ (by omega)
            have w2 : IntKind.i64.wrap (n : Int) = (n : Int) := IntWalk.i64_in _ (by omega)
            have w3 : (n : Int) < (n : Int) + 1 := by omega
            refine AnyBut.region (fun w' => w'.cell? ⟨b2, 2, none⟩ = some (.slice (some ⟨g2, 0, none⟩) (n + 1) c2) ∧ w'.cell? ⟨g2, n, none⟩ = some (.slice Au xs.length cu)) 18 (by kernel_rfl) ?_
            refine AnyBut.take 0 rfl (by kernel_rfl) (by kernel_rfl) (by kernel_rfl) (by kernel_rfl) (by decide) (fun _ _ _ h => h) (yields_of (by rfl) (fun w9 hS => (by obtain ⟨s1, s2⟩ := hS; go_simp; try rfl))) ⟨d3, d4⟩ ?_
            refine AnyBut.take 1 rfl (by kernel_rfl) (by kernel_rfl) (by kernel_rfl) (by kernel_rfl) (by decide) (fun _ _ _ h => h) (yields_of (by rfl) (fun w9 hS => (by obtain ⟨s1, s2⟩ := hS; go_simp; try rfl))) ⟨d3, d4⟩ ?_
            refine AnyBut.take 2 rfl (by kernel_rfl) (by kernel_rfl) (by kernel_rfl) (by kernel_rfl) (by decide) (fun _ _ _ h => h) (yields_of (by rfl) (fun w9 hS => (by obtain ⟨s1, s2⟩ := hS; go_simp; try rfl))) ⟨d3, d4⟩ ?_
            refine AnyBut.take 3 rfl (by kernel_rfl) (by kernel_rfl) (by kernel_rfl) (by kernel_rfl) (by decide) (fun _ _ _ h => h) (yields_of (by rfl) (fun w9 hS => (by obtain ⟨s1, s2⟩ := hS; go_simp; try rfl))) ⟨d3, d4⟩ ?_
            refine AnyBut.take 4 rfl (by kernel_rfl) (by kernel_rfl) (by kernel_rfl) (by kernel_rfl) (by decide) (fun _ _ _ h => h) (yields_of (by rfl) (fun w9 hS => (by obtain ⟨s1, s2⟩ := hS; go_simp; try rfl))) ⟨d3, d4⟩ ?_
            refine AnyBut.take 5 rfl (by kernel_rfl) (by kernel_rfl) (by kernel_rfl) (by kernel_rfl) (by decide) (fun _ _ _ h => h) (yields_of (by rfl) (fun w9 hS => (by obtain ⟨s1, s2⟩ := hS; go_simp; try rfl))) ⟨d3, d4⟩ ?_
            refine AnyBut.take 6 rfl (by kernel_rfl) (by kernel_rfl) (by kernel_rfl) (by kernel_rfl) (by decide) (fun _ _ _ h => h) (yields_of (by rfl) (fun w9 hS => (by obtain ⟨s1, s2⟩ := hS; go_simp; try rfl))) ⟨d3, d4⟩ ?_
            refine AnyBut.take 7 rfl (by kernel_rfl) (by kernel_rfl) (by kernel_rfl) (by kernel_rfl) (by decide) (fun _ _ _ h => h) (yields_of (by rfl) (fun w9 hS => (by obtain ⟨s1, s2⟩ := hS; go_simp; try rfl))) ⟨d3, d4⟩ ?_
            refine AnyBut.take 8 rfl (by kernel_rfl) (by kernel_rfl) (by kernel_rfl) (by kernel_rfl) (by decide) (fun _ _ _ h => h) (yields_of (by rfl) (fun w9 hS => (by obtain ⟨s1, s2⟩ := hS; go_simp; try rfl))) ⟨d3, d4⟩ ?_
            refine AnyBut.take 9 rfl (by kernel_rfl) (by kernel_rfl) (by kernel_rfl) (by kernel_rfl) (by decide) (fun _ _ _ h => h) (yields_of (by rfl) (fun w9 hS => (by obtain ⟨s1, s2⟩ := hS; go_simp; try rfl))) ⟨d3, d4⟩ ?_
            refine AnyBut.take 10 rfl (by kernel_rfl) (by kernel_rfl) (by kernel_rfl) (by kernel_rfl) (by decide) (fun _ _ _ h => h) (yields_of (by rfl) (fun w9 hS => (by obtain ⟨s1, s2⟩ := hS; go_simp; try rfl))) ⟨d3, d4⟩ ?_
            refine AnyBut.take 11 rfl (by kernel_rfl) (by kernel_rfl) (by kernel_rfl) (by kernel_rfl) (by decide) (fun _ _ _ h => h) (yields_of (by rfl) (fun w9 hS => (by obtain ⟨s1, s2⟩ := hS; go_simp; try rfl))) ⟨d3, d4⟩ ?_
            refine AnyBut.take 12 rfl (by kernel_rfl) (by kernel_rfl) (by kernel_rfl) (by kernel_rfl) (by decide) (fun _ _ _ h => h) (yields_of (by rfl) (fun w9 hS => (by obtain ⟨s1, s2⟩ := hS; go_simp; try rfl))) ⟨d3, d4⟩ ?_
            refine AnyBut.take 13 rfl (by kernel_rfl) (by kernel_rfl) (by kernel_rfl) (by kernel_rfl) (by decide) (fun _ _ _ h => h) (yields_of (by rfl) (fun w9 hS => (by obtain ⟨s1, s2⟩ := hS; go_simp; try rfl))) ⟨d3, d4⟩ ?_
            refine AnyBut.take 14 rfl (by kernel_rfl) (by kernel_rfl) (by kernel_rfl) (by kernel_rfl) (by decide) (fun _ _ _ h => h) (yields_of (by rfl) (fun w9 hS => (by obtain ⟨s1, s2⟩ := hS; go_simp; try rfl))) ⟨d3, d4⟩ ?_
            refine AnyBut.one 15 rfl (by kernel_rfl) (by rfl) ?_
            go_simp
            refine ⟨⟨cell_alloc d3, cell_alloc d4⟩, ?_⟩
            have HMA : Hid (Mk ((wr.alloc (.cells #[.int .i64 (i : Int)] 3)).drew) n0 b1 b2 #[.int .u8 (d.form : Int), .int .u8 (d.len : Int), .int .u8 (d.speed : Int), .int .u16 (d.mute : Int), .int .u16 (d.wait : Int), .int .u8 (d.cancel : Int), .int .u8 (d.stay : Int), .int .u8 (d.join : Int), .slice Ar kr cr] #[.slice A0 k0 c0, .slice Av k1 cv, .slice (some ⟨g2, 0, none⟩) (n + 1) c2, .slice A3 k3 c3, .slice none 0 0, .int .i64 0, .int .i64 0, .int .i64 0, .int .i64 0, .int .i64 0]) := by
              have h := HMI.out.fresh ((Below.refl wr.heap.size wr).alloc (Nat.le_refl _) (.cells #[.int .i64 (i : Int)] 3))
              exact ⟨h.dr, h.res, h.lay, h.ne⟩
            have HOA : Hid (ORows ((wr.alloc (.cells #[.int .i64 (i : Int)] 3)).drew) P.heap.size (.slice (some ⟨g2, 0, none⟩) (n + 1) c2) vs (makeParts d i)) := (HOR.out.alloc (.cells #[.int .i64 (i : Int)] 3)).drew
            have HUA : Hid (((wr.alloc (.cells #[.int .i64 (i : Int)] 3)).drew).ownsRow P.heap.size 3 1 (.slice Au xs.length cu) xs.length (ivals xs)) := HUO.out.alloc (.cells #[.int .i64 (i : Int)] 3)
            have HO3 : Hid (((wr.alloc (.cells #[.int .i64 (i : Int)] 3)).drew).ownsRow P.heap.size 42 1 (.slice (some ⟨g2, 0, none⟩) (n + 1) c2) (n + 1) vs) := HO2.out.alloc (.cells #[.int .i64 (i : Int)] 3)
            have HKA : Hid (KeptL [b2] P ((wr.alloc (.cells #[.int .i64 (i : Int)] 3)).drew)) := by
              have h := HKI.out.alloc (.cells #[.int .i64 (i : Int)] 3)
              exact ⟨h.os, h.tape, h.output, h.size, h.block⟩
            have HNA : Hid (∀ (j : Nat) (u : Value), [.int .i64 (i : Int)][j]? = some u → ((wr.alloc (.cells #[.int .i64 (i : Int)] 3)).drew).cell? ((⟨wr.heap.size, 0, none⟩ : Addr).add j) = some u) := row_new wr 3 [.int .i64 (i : Int)]
            generalize (wr.alloc (.cells #[.int .i64 (i : Int)] 3)).drew = wA at *
            generalize wr.heap.size = gA at *
            clear HMD d3 d4
            refine AnyBut.one 16 rfl (by kernel_rfl) (by rfl) ?_
            refine wp_append_lies wA (.tmp 207) (.tmp 209) 42 rfl P.heap.size 3 i3 (.int .i64 0) 1 8 Tryz.underlying42 hi3 hz30 hz31 hz32 rfl (by decide) (.slice Au xs.length cu) xs.length _ (by rfl) HUA.out ⟨gA, 0, none⟩ 1 1 [.int .i64 (i : Int)] (by rfl) rfl HNA.out (by intro u hu; simp at hu; subst hu; rfl) (by decide) (by unfold maxLen; omega) (by omega) HKA.out.size wA.heap.size rfl ?_
            intro g5 c5 w5 hown5 hgrow5 hlie _
            rw [ivals_snoc'] at hown5
            have hrb : ∀ k, (Value.slice Au xs.length cu).ownBlock = some k → P.heap.size ≤ k := fun k hk => (HUA.out.lt k hk).1
            have mk5 := HMA.out.grown hgrow5 hrb HSP.out
            have kp5 : KeptL [b2] P w5 := HKA.out.grown hgrow5 hrb
            have hlast := HOA.out.last (g := g5) (by have := HLEN.out; have := HN1.out; omega) HXS.out HU.out hown5 rfl hgrow5 (by rcases hlie with e | e; exact Or.inl e; exact Or.inr (by omega))
            have ho5 := HO3.out.kept hgrow5 (own_apart HO3.out HUA.out (by decide))
            have g0 := mk5.lay.cell 2
            have g4 := ho5.cellAt n (by omega)
            have z4 := ho5.frozenAt n
            rw [HU.out] at g4
            simp only [List.getElem?_toArray, List.getElem?_cons_zero, List.getElem?_cons_succ] at g0
            refine ⟨fun _ => ⟨g0, g4⟩, ?_⟩
            have HNX : Hid (∃ v2, Mk (w5.setCell ⟨g2, n, none⟩ (.slice (some ⟨g5, 0, none⟩) (xs.length + 1) c5)) n0 b1 b2 #[.int .u8 (d.form : Int), .int .u8 (d.len : Int), .int .u8 (d.speed : Int), .int .u16 (d.mute : Int), .int .u16 (d.wait : Int), .int .u8 (d.cancel : Int), .int .u8 (d.stay : Int), .int .u8 (d.join : Int), .slice Ar kr cr] #[.slice A0 k0 c0, .slice Av k1 cv, v2, .slice A3 k3 c3, .slice none 0 0, .int .i64 0, .int .i64 0, .int .i64 0, .int .i64 0, .int .i64 0] ∧ OwnRows (w5.setCell ⟨g2, n, none⟩ (.slice (some ⟨g5, 0, none⟩) (xs.length + 1) c5)) P.heap.size v2 (makeParts d (i + 1)) ∧ KeptL [b2] P (w5.setCell ⟨g2, n, none⟩ (.slice (some ⟨g5, 0, none⟩) (xs.length + 1) c5))) :=
              ⟨_, mk5.away (p := ⟨g2, n, none⟩) (by have := HSP.out; refine ⟨?_, ?_, ?_⟩ <;> (show _ ≠ g2; omega)) _, ⟨_, by rw [HNX1.out]; exact hlast⟩, kp5.setNew (p := ⟨g2, n, none⟩) hg2P _⟩
            clear hown5 hgrow5 hrb mk5 kp5 hlast ho5 hlie
            refine AnyBut.one 17 rfl (by kernel_rfl) (by rfl) ?_
            go_simp
            refine AnyBut.one 18 rfl (by kernel_rfl) (by rfl) ?_
            go_simp
            refine AnyBut.done (by kernel_rfl) ?_
            clear w1 w2 w3
            go_wp2_with fail
            go_roundw
            case rel => exact ⟨i + 1, by omega, by go_num, HNX⟩
            case measure => simp [intOf]; omega
          · have HNX1 : Hid (makeParts d (i + 1) = makeParts d i ++ [[(i : Int)]]) := makeParts_new hj
            rcases Nat.eq_zero_or_pos i with hi0 | hi0
            · have hd0 : decide ((0 : Int) < (i : Int)) = false := decide_eq_false (by omega)
              have hi1 : ¬ (0 : Int) < (i : Int) := by omega
              have HI0 := Lib.hid hi0
              clear hj hi0
              go_upto_region 37 with (fail)
              have f2 := HMI.out.lay.cell 2
              simp only [List.getElem?_toArray, List.getElem?_cons_zero, List.getElem?_cons_succ] at f2
              have HOA := Lib.hid ((HOR.out.alloc (.cells #[.int .i64 (i : Int)] 3)).alloc (.cells #[.slice (some ⟨wr.heap.size, 0, none⟩) 1 1] 42))
              have HUA : Hid (((wr.alloc (.cells #[.int .i64 (i : Int)] 3)).alloc (.cells #[.slice (some ⟨wr.heap.size, 0, none⟩) 1 1] 42)).ownsRow P.heap.size 3 1 (.slice (some ⟨wr.heap.size, 0, none⟩) 1 1) 1 (ivals [(i : Int)])) := (World.ownsRow_lit wr #[.int .i64 (i : Int)] 1 HKI.out.size (by unfold maxLen; omega) rfl).alloc _
              go_wp2_with (at_builtin; refine wpList_append_own _ rfl (.tmp 213) (.tmp 216) 30 rfl P.heap.size 42 i6 (.slice none 0 0) 1 24 Tryz.underlying30 hi6 hz60 hz61 hz62 rfl (by decide) _ _ _ rfl HOA.out.own ⟨wr.heap.size + 1, 0, none⟩ 1 1 [.slice (some ⟨wr.heap.size, 0, none⟩) 1 1] rfl rfl (by simpa using one_new (wr.alloc (.cells #[.int .i64 (i : Int)] 3)) 42 _) (one_cell rfl) (by unfold maxLen; omega) (by omega) (by have := HKI.out.size; simp; omega) ?_)
              intro v5 w5 hown5 hgrow5 _
              obtain ⟨A5, c5, hv5⟩ := own_slice hown5
              subst hv5
              have hrb : ∀ k, (Value.slice A2 vs.length c2).ownBlock = some k → P.heap.size ≤ k := fun k hk => (HOR.out.own.lt k hk).1
              have hpush := HOA.out.push HUA.out (fun g hg j hj e => by have h1 := ((HOR.out.row j hj (by rw [← HOR.out.len]; exact hj)).lt g e).2; have h2 : wr.heap.size = g := by simpa [Value.ownBlock] using hg
                                                                        omega) hown5 hgrow5
              have mk5 := (HMI.out.fresh (below2 wr (.cells #[.int .i64 (i : Int)] 3) (.cells #[.slice (some ⟨wr.heap.size, 0, none⟩) 1 1] 42))).grown hgrow5 hrb HSP.out
              have kp5 : KeptL [b2] P w5 := ((HKI.out.alloc _).alloc _).grown hgrow5 hrb
              have g0 := mk5.lay.cell 2; have z0 := mk5.lay.frozen 2
              simp only [List.getElem?_toArray, List.getElem?_cons_zero, List.getElem?_cons_succ] at g0
              have HNX : Hid (∃ v2, Mk (w5.setCell ⟨b2, 2, none⟩ (.slice A5 (vs.length + 1) c5)) n0 b1 b2 #[.int .u8 (d.form : Int), .int .u8 (d.len : Int), .int .u8 (d.speed : Int), .int .u16 (d.mute : Int), .int .u16 (d.wait : Int), .int .u8 (d.cancel : Int), .int .u8 (d.stay : Int), .int .u8 (d.join : Int), .slice Ar kr cr] #[.slice A0 k0 c0, .slice Av k1 cv, v2, .slice A3 k3 c3, .slice none 0 0, .int .i64 0, .int .i64 0, .int .i64 0, .int .i64 0, .int .i64 0] ∧ OwnRows (w5.setCell ⟨b2, 2, none⟩ (.slice A5 (vs.length + 1) c5)) P.heap.size v2 (makeParts d (i + 1)) ∧ KeptL [b2] P (w5.setCell ⟨b2, 2, none⟩ (.slice A5 (vs.length + 1) c5))) := ⟨_, mk5.set 2 _, ⟨_, by rw [HNX1.out]; exact hpush.set (a := ⟨b2, 2, none⟩) HSP.out.2.2 _⟩, kp5.set (by simp) _⟩
              clear hown5 hgrow5 hrb mk5 kp5 hpush f2 f7
              go_wp2_with fail
              go_roundw
              case rel => exact ⟨i + 1, by omega, by go_num, HNX⟩
              case measure => simp [intOf]; omega
            · have hbit : d.join.testBit r8 = false := by
                unfold joins at hj; simp at hj; have := hj hi0; rw [HR8.out.1] at this; exact this
              have hb2 := shr_bit_t d.join r8
              rw [hbit] at hb2
              clear hj
              go_upto_region 37 with (fail)
              have f2 := HMI.out.lay.cell 2
              simp only [List.getElem?_toArray, List.getElem?_cons_zero, List.getElem?_cons_succ] at f2
              have HOA := Lib.hid ((HOR.out.alloc (.cells #[.int .i64 (i : Int)] 3)).alloc (.cells #[.slice (some ⟨wr.heap.size, 0, none⟩) 1 1] 42))
              have HUA : Hid (((wr.alloc (.cells #[.int .i64 (i : Int)] 3)).alloc (.cells #[.slice (some ⟨wr.heap.size, 0, none⟩) 1 1] 42)).ownsRow P.heap.size 3 1 (.slice (some ⟨wr.heap.size, 0, none⟩) 1 1) 1 (ivals [(i : Int)])) := (World.ownsRow_lit wr #[.int .i64 (i : Int)] 1 HKI.out.size (by unfold maxLen; omega) rfl).alloc _
              go_wp2_with (at_builtin; refine wpList_append_own _ rfl (.tmp 213) (.tmp 216) 30 rfl P.heap.size 42 i6 (.slice none 0 0) 1 24 Tryz.underlying30 hi6 hz60 hz61 hz62 rfl (by decide) _ _ _ rfl HOA.out.own ⟨wr.heap.size + 1, 0, none⟩ 1 1 [.slice (some ⟨wr.heap.size, 0, none⟩) 1 1] rfl rfl (by simpa using one_new (wr.alloc (.cells #[.int .i64 (i : Int)] 3)) 42 _) (one_cell rfl) (by unfold maxLen; omega) (by omega) (by have := HKI.out.size; simp; omega) ?_)
              intro v5 w5 hown5 hgrow5 _
              obtain ⟨A5, c5, hv5⟩ := own_slice hown5
              subst hv5
              have hrb : ∀ k, (Value.slice A2 vs.length c2).ownBlock = some k → P.heap.size ≤ k := fun k hk => (HOR.out.own.lt k hk).1
              have hpush := HOA.out.push HUA.out (fun g hg j hj e => by have h1 := ((HOR.out.row j hj (by rw [← HOR.out.len]; exact hj)).lt g e).2; have h2 : wr.heap.size = g := by simpa [Value.ownBlock] using hg
                                                                        omega) hown5 hgrow5
              have mk5 := (HMI.out.fresh (below2 wr (.cells #[.int .i64 (i : Int)] 3) (.cells #[.slice (some ⟨wr.heap.size, 0, none⟩) 1 1] 42))).grown hgrow5 hrb HSP.out
              have kp5 : KeptL [b2] P w5 := ((HKI.out.alloc _).alloc _).grown hgrow5 hrb
              have g0 := mk5.lay.cell 2; have z0 := mk5.lay.frozen 2
              simp only [List.getElem?_toArray, List.getElem?_cons_zero, List.getElem?_cons_succ] at g0
              have HNX : Hid (∃ v2, Mk (w5.setCell ⟨b2, 2, none⟩ (.slice A5 (vs.length + 1) c5)) n0 b1 b2 #[.int .u8 (d.form : Int), .int .u8 (d.len : Int), .int .u8 (d.speed : Int), .int .u16 (d.mute : Int), .int .u16 (d.wait : Int), .int .u8 (d.cancel : Int), .int .u8 (d.stay : Int), .int .u8 (d.join : Int), .slice Ar kr cr] #[.slice A0 k0 c0, .slice Av k1 cv, v2, .slice A3 k3 c3, .slice none 0 0, .int .i64 0, .int .i64 0, .int .i64 0, .int .i64 0, .int .i64 0] ∧ OwnRows (w5.setCell ⟨b2, 2, none⟩ (.slice A5 (vs.length + 1) c5)) P.heap.size v2 (makeParts d (i + 1)) ∧ KeptL [b2] P (w5.setCell ⟨b2, 2, none⟩ (.slice A5 (vs.length + 1) c5))) := ⟨_, mk5.set 2 _, ⟨_, by rw [HNX1.out]; exact hpush.set (a := ⟨b2, 2, none⟩) HSP.out.2.2 _⟩, kp5.set (by simp) _⟩
              clear hown5 hgrow5 hrb mk5 kp5 hpush f2 f7
              go_wp2_with fail
              go_roundw
              case rel => exact ⟨i + 1, by omega, by go_num, HNX⟩
              case measure => simp [intOf]; omega
        · obtain ⟨V3, hV3⟩ : ∃ x, x = wr := ⟨_, rfl⟩
          subst hV3
          have HIN : Hid (i = ne) := by show _ = _; omega
          have HPT : Hid (IsRows V3 (.slice A2 vs.length c2) (makeParts d ne)) := by have := HIN.out; rw [← this]; exact OwnRows.is ⟨vs, HOR.out⟩
          have hspl : d.speed % (2 * unit d) < 2 * unit d := Nat.mod_lt _ (by omega)
          obtain ⟨sp, HSD⟩ : ∃ r, Hid (d.speed % (2 * unit d) = r ∧ r < 400) := ⟨_, rfl, by omega⟩
          clear hspl
          obtain ⟨tm, HTM⟩ : ∃ r, Hid (d.mute % 1000 = r ∧ r < 1000) := ⟨_, rfl, Nat.mod_lt _ (by decide)⟩
          obtain ⟨tw, HTW⟩ : ∃ r, Hid (d.wait % 1000 = r ∧ r < 1000) := ⟨_, rfl, Nat.mod_lt _ (by decide)⟩
          obtain ⟨ts, HTS⟩ : ∃ r, Hid (d.stay % 4 = r ∧ r < 4) := ⟨_, rfl, Nat.mod_lt _ (by decide)⟩
          have o3 := HD.out.speed; have o4 := HD.out.mute; have o5 := HD.out.wait; have o6 := HD.out.cancel; have o7 := HD.out.stay
          have q1 : sp < 400 := HSD.out.2
          have q2 : tm < 1000 := HTM.out.2
          have q3 : tw < 1000 := HTW.out.2
          have q4 : ts < 4 := HTS.out.2
          have f2 := HMI.out.dr.cell 2
          have g5 := HMI.out.lay.cell 5; have z5 := HMI.out.lay.frozen 5
          simp only [List.getElem?_toArray, List.getElem?_cons_zero, List.getElem?_cons_succ] at f2 g5
          have hs1 : (d.speed : Int).tmod (2 * (unit d : Int)) = (sp : Int) := by
            rw [Int.tmod_eq_emod_of_nonneg (by omega)]; have := HSD.out.1; rw [← this]; simp
          have hs2 : (d.speed : Int) % (2 * (unit d : Int)) = (sp : Int) := by have := HSD.out.1; rw [← this]; simp
          have HM4 : Hid (Mk (V3.setCell ⟨b2, 5, none⟩ (.int .i64 (1 + (sp : Int)))) n0 b1 b2 #[.int .u8 (d.form : Int), .int .u8 (d.len : Int), .int .u8 (d.speed : Int), .int .u16 (d.mute : Int), .int .u16 (d.wait : Int), .int .u8 (d.cancel : Int), .int .u8 (d.stay : Int), .int .u8 (d.join : Int), .slice Ar kr cr] #[.slice A0 k0 c0, .slice Av k1 cv, .slice A2 vs.length c2, .slice A3 k3 c3, .slice none 0 0, .int .i64 (1 + (sp : Int)), .int .i64 0, .int .i64 0, .int .i64 0, .int .i64 0]) := HMI.out.set 5 _
          have HK4 : Hid (KeptL [b2] V3 (V3.setCell ⟨b2, 5, none⟩ (.int .i64 (1 + (sp : Int))))) := (KeptL.refl [b2] V3).set (by simp) _
          go_upto_region 39 with (fail)
          clear hs1 hs2 f2 g5 z5
          generalize V3.setCell ⟨b2, 5, none⟩ (.int .i64 (1 + (sp : Int))) = V4 at *
          have d3 : V4.cell? ⟨n0, 3, none⟩ = some (.int .u16 (d.mute : Int)) := by have := HM4.out.dr.cell 3; simpa using this
          have d4 : V4.cell? ⟨n0, 4, none⟩ = some (.int .u16 (d.wait : Int)) := by have := HM4.out.dr.cell 4; simpa using this
          have d5 : V4.cell? ⟨n0, 5, none⟩ = some (.int .u8 (d.cancel : Int)) := by have := HM4.out.dr.cell 5; simpa using this
          have d6 : V4.cell? ⟨n0, 6, none⟩ = some (.int .u8 (d.stay : Int)) := by have := HM4.out.dr.cell 6; simpa using this
          have m1 : (d.mute : Int).tmod 1000 = (tm : Int) := by rw [Int.tmod_eq_emod_of_nonneg (by omega)]; have := HTM.out.1; omega
          have m2 : (d.mute : Int) % 1000 = (tm : Int) := by have := HTM.out.1; omega
          have m3 : (d.wait : Int).tmod 1000 = (tw : Int) := by rw [Int.tmod_eq_emod_of_nonneg (by omega)]; have := HTW.out.1; omega
          have m4 : (d.wait : Int) % 1000 = (tw : Int) := by have := HTW.out.1; omega
          have m5 : (d.stay : Int).tmod 4 = (ts : Int) := by rw [Int.tmod_eq_emod_of_nonneg (by omega)]; have := HTS.out.1; omega
          have m6 : (d.stay : Int) % 4 = (ts : Int) := by have := HTS.out.1; omega
          have x1 : IntKind.i64.wrap (tm : Int) = (tm : Int) := IntWalk.i64_in _ (by omega)
          have x2 : IntKind.i64.wrap (1 + (tm : Int)) = 1 + (tm : Int) := IntWalk.i64_in _ (by omega)
          have x3 : IntKind.i64.wrap (tw : Int) = (tw : Int) := IntWalk.i64_in _ (by omega)
          have x4 : IntKind.i64.wrap (1 + (tw : Int)) = 1 + (tw : Int) := IntWalk.i64_in _ (by omega)
          have x5 : IntKind.i64.wrap (d.cancel : Int) = (d.cancel : Int) := IntWalk.i64_in _ (by omega)
          have x6 : IntKind.i64.wrap (1 + (d.cancel : Int)) = 1 + (d.cancel : Int) := IntWalk.i64_in _ (by omega)
          have x7 : IntKind.i64.wrap (ts : Int) = (ts : Int) := IntWalk.i64_in _ (by omega)
          have y1 : IntKind.u16.wrap (tm : Int) = (tm : Int) := by simp [IntKind.wrap, IntKind.bits, IntKind.signed]; omega
          have y2 : IntKind.u16.wrap (tw : Int) = (tw : Int) := by simp [IntKind.wrap, IntKind.bits, IntKind.signed]; omega
          have y3 : IntKind.u8.wrap (ts : Int) = (ts : Int) := by simp [IntKind.wrap, IntKind.bits, IntKind.signed]; omega
          have hnb : n0 ≠ b2 := HM4.out.ne.2.2
          have hnb2 : b2 ≠ n0 := Ne.symm hnb
          have c6 := HM4.out.lay.cell 6; have c7 := HM4.out.lay.cell 7; have c8 := HM4.out.lay.cell 8; have c9 := HM4.out.lay.cell 9
          simp only [List.getElem?_toArray, List.getElem?_cons_zero, List.getElem?_cons_succ] at c6 c7 c8 c9
          have z6 := HM4.out.lay.frozen 6; have z7 := HM4.out.lay.frozen 7; have z8 := HM4.out.lay.frozen 8; have z9 := HM4.out.lay.frozen 9
          refine AnyBut.region (fun w' => w'.cell? ⟨n0, 3, none⟩ = some (.int .u16 (d.mute : Int)) ∧ w'.cell? ⟨n0, 4, none⟩ = some (.int .u16 (d.wait : Int)) ∧ w'.cell? ⟨n0, 5, none⟩ = some (.int .u8 (d.cancel : Int)) ∧ w'.cell? ⟨n0, 6, none⟩ = some (.int .u8 (d.stay : Int))) 25 (by kernel_rfl) ?_
          refine AnyBut.take 0 rfl (by kernel_rfl) (by kernel_rfl) (by kernel_rfl) (by kernel_rfl) (by decide) (fun _ _ _ h => h) (yields_of (by rfl) (fun w9 hS => (by obtain ⟨s1, s2, s3, s4⟩ := hS; go_simp; try rfl))) ⟨d3, d4, d5, d6⟩ ?_
          refine AnyBut.take 1 rfl (by kernel_rfl) (by kernel_rfl) (by kernel_rfl) (by kernel_rfl) (by decide) (fun _ _ _ h => h) (yields_of (by rfl) (fun w9 hS => (by obtain ⟨s1, s2, s3, s4⟩ := hS; go_simp; try rfl))) ⟨d3, d4, d5, d6⟩ ?_
          refine AnyBut.take 2 rfl (by kernel_rfl) (by kernel_rfl) (by kernel_rfl) (by kernel_rfl) (by decide) (fun _ _ _ h => h) (yields_of (by rfl) (fun w9 hS => (by obtain ⟨s1, s2, s3, s4⟩ := hS; go_simp; try rfl))) ⟨d3, d4, d5, d6⟩ ?_
          refine AnyBut.take 3 rfl (by kernel_rfl) (by kernel_rfl) (by kernel_rfl) (by kernel_rfl) (by decide) (fun _ _ _ h => h) (yields_of (by rfl) (fun w9 hS => (by obtain ⟨s1, s2, s3, s4⟩ := hS; go_simp; try rfl))) ⟨d3, d4, d5, d6⟩ ?_
          refine AnyBut.take 4 rfl (by kernel_rfl) (by kernel_rfl) (by kernel_rfl) (by kernel_rfl) (by decide) (fun _ _ _ h => h) (yields_of (by rfl) (fun w9 hS => (by obtain ⟨s1, s2, s3, s4⟩ := hS; go_simp; try rfl))) ⟨d3, d4, d5, d6⟩ ?_
          refine AnyBut.take 5 rfl (by kernel_rfl) (by kernel_rfl) (by kernel_rfl) (by kernel_rfl) (by decide) (fun _ _ _ h => h) (yields_of (by rfl) (fun w9 hS => (by obtain ⟨s1, s2, s3, s4⟩ := hS; go_simp; try rfl))) ⟨d3, d4, d5, d6⟩ ?_
          refine AnyBut.take 6 rfl (by kernel_rfl) (by kernel_rfl) (by kernel_rfl) (by kernel_rfl) (by decide) (fun _ _ _ h => h) (yields_of (by rfl) (fun w9 hS => (by obtain ⟨s1, s2, s3, s4⟩ := hS; go_simp; try rfl))) ⟨d3, d4, d5, d6⟩ ?_
          refine AnyBut.take 7 rfl (by kernel_rfl) (by kernel_rfl) (by kernel_rfl) (by kernel_rfl) (by decide) (fun _ _ _ h => h) (yields_of (by rfl) (fun w9 hS => (by obtain ⟨s1, s2, s3, s4⟩ := hS; go_simp; try rfl))) ⟨d3, d4, d5, d6⟩ ?_
          refine AnyBut.take 8 rfl (by kernel_rfl) (by kernel_rfl) (by kernel_rfl) (by kernel_rfl) (by decide) (fun _ _ _ h => h) (yields_of (by rfl) (fun w9 hS => (by obtain ⟨s1, s2, s3, s4⟩ := hS; go_simp; try rfl))) ⟨d3, d4, d5, d6⟩ ?_
          refine AnyBut.take 9 rfl (by kernel_rfl) (by kernel_rfl) (by kernel_rfl) (by kernel_rfl) (by decide) (fun _ _ _ h => h) (yields_of (by rfl) (fun w9 hS => (by obtain ⟨s1, s2, s3, s4⟩ := hS; go_simp; try rfl))) ⟨d3, d4, d5, d6⟩ ?_
          refine AnyBut.take 10 rfl (by kernel_rfl) (by kernel_rfl) (by kernel_rfl) (by kernel_rfl) (by decide) (fun _ _ _ h => h) (yields_of (by rfl) (fun w9 hS => (by obtain ⟨s1, s2, s3, s4⟩ := hS; go_simp; try rfl))) ⟨d3, d4, d5, d6⟩ ?_
          refine AnyBut.take 11 rfl (by kernel_rfl) (by kernel_rfl) (by kernel_rfl) (by kernel_rfl) (by decide) (fun _ _ _ h => h) (yields_of (by rfl) (fun w9 hS => (by obtain ⟨s1, s2, s3, s4⟩ := hS; go_simp; try rfl))) ⟨d3, d4, d5, d6⟩ ?_
          refine AnyBut.take 12 rfl (by kernel_rfl) (by kernel_rfl) (by kernel_rfl) (by kernel_rfl) (by decide) (fun _ _ _ h => h) (yields_of (by rfl) (fun w9 hS => (by obtain ⟨s1, s2, s3, s4⟩ := hS; go_simp; try rfl))) ⟨d3, d4, d5, d6⟩ ?_
          refine AnyBut.take 13 rfl (by kernel_rfl) (by kernel_rfl) (by kernel_rfl) (by kernel_rfl) (by decide) (fun _ _ _ h => h) (yields_of (by rfl) (fun w9 hS => (by obtain ⟨s1, s2, s3, s4⟩ := hS; go_simp; try rfl))) ⟨d3, d4, d5, d6⟩ ?_
          refine AnyBut.take 14 rfl (by kernel_rfl) (by kernel_rfl) (by kernel_rfl) (by kernel_rfl) (by decide) (fun _ _ _ h => h) (yields_of (by rfl) (fun w9 hS => (by obtain ⟨s1, s2, s3, s4⟩ := hS; go_simp; try rfl))) ⟨d3, d4, d5, d6⟩ ?_
          refine AnyBut.take 15 rfl (by kernel_rfl) (by kernel_rfl) (by kernel_rfl) (by kernel_rfl) (by decide) (fun _ _ _ h => h) (yields_of (by rfl) (fun w9 hS => (by obtain ⟨s1, s2, s3, s4⟩ := hS; go_simp; try rfl))) ⟨d3, d4, d5, d6⟩ ?_
          refine AnyBut.take 16 rfl (by kernel_rfl) (by kernel_rfl) (by kernel_rfl) (by kernel_rfl) (by decide) (fun _ _ _ h => h) (yields_of (by rfl) (fun w9 hS => (by obtain ⟨s1, s2, s3, s4⟩ := hS; go_simp; try rfl))) ⟨d3, d4, d5, d6⟩ ?_
          refine AnyBut.take 17 rfl (by kernel_rfl) (by kernel_rfl) (by kernel_rfl) (by kernel_rfl) (by decide) (fun _ _ _ h => h) (yields_of (by rfl) (fun w9 hS => (by obtain ⟨s1, s2, s3, s4⟩ := hS; go_simp; try rfl))) ⟨d3, d4, d5, d6⟩ ?_
          refine AnyBut.one 18 rfl (by kernel_rfl) (by rfl) ?_
          go_simp
          refine AnyBut.one 19 rfl (by kernel_rfl) (by rfl) ?_
          go_simp
          refine AnyBut.one 20 rfl (by kernel_rfl) (by rfl) ?_
          go_simp
          refine AnyBut.one 21 rfl (by kernel_rfl) (by rfl) ?_
          go_simp
          refine AnyBut.one 22 rfl (by kernel_rfl) (by rfl) ?_
          go_simp
          refine AnyBut.one 23 rfl (by kernel_rfl) (by rfl) ?_
          go_simp
          refine AnyBut.one 24 rfl (by kernel_rfl) (by rfl) ?_
          go_simp
          refine AnyBut.one 25 rfl (by kernel_rfl) (by rfl) ?_
          go_simp
          refine AnyBut.done (by kernel_rfl) ?_
          have mk6 : Mk (V4.setCell ⟨b2, 6, none⟩ (.int .i64 (1 + (tm : Int)))) n0 b1 b2 #[.int .u8 (d.form : Int), .int .u8 (d.len : Int), .int .u8 (d.speed : Int), .int .u16 (d.mute : Int), .int .u16 (d.wait : Int), .int .u8 (d.cancel : Int), .int .u8 (d.stay : Int), .int .u8 (d.join : Int), .slice Ar kr cr] #[.slice A0 k0 c0, .slice Av k1 cv, .slice A2 vs.length c2, .slice A3 k3 c3, .slice none 0 0, .int .i64 (1 + (sp : Int)), .int .i64 (1 + (tm : Int)), .int .i64 0, .int .i64 0, .int .i64 0] := HM4.out.set 6 _
          have mk7 : Mk ((V4.setCell ⟨b2, 6, none⟩ (.int .i64 (1 + (tm : Int)))).setCell ⟨b2, 7, none⟩ (.int .i64 (1 + (tw : Int)))) n0 b1 b2 #[.int .u8 (d.form : Int), .int .u8 (d.len : Int), .int .u8 (d.speed : Int), .int .u16 (d.mute : Int), .int .u16 (d.wait : Int), .int .u8 (d.cancel : Int), .int .u8 (d.stay : Int), .int .u8 (d.join : Int), .slice Ar kr cr] #[.slice A0 k0 c0, .slice Av k1 cv, .slice A2 vs.length c2, .slice A3 k3 c3, .slice none 0 0, .int .i64 (1 + (sp : Int)), .int .i64 (1 + (tm : Int)), .int .i64 (1 + (tw : Int)), .int .i64 0, .int .i64 0] := mk6.set 7 _
          have mk8 : Mk (((V4.setCell ⟨b2, 6, none⟩ (.int .i64 (1 + (tm : Int)))).setCell ⟨b2, 7, none⟩ (.int .i64 (1 + (tw : Int)))).setCell ⟨b2, 8, none⟩ (.int .i64 (1 + (d.cancel : Int)))) n0 b1 b2 #[.int .u8 (d.form : Int), .int .u8 (d.len : Int), .int .u8 (d.speed : Int), .int .u16 (d.mute : Int), .int .u16 (d.wait : Int), .int .u8 (d.cancel : Int), .int .u8 (d.stay : Int), .int .u8 (d.join : Int), .slice Ar kr cr] #[.slice A0 k0 c0, .slice Av k1 cv, .slice A2 vs.length c2, .slice A3 k3 c3, .slice none 0 0, .int .i64 (1 + (sp : Int)), .int .i64 (1 + (tm : Int)), .int .i64 (1 + (tw : Int)), .int .i64 (1 + (d.cancel : Int)), .int .i64 0] := mk7.set 8 _
          have mk9 : Mk ((((V4.setCell ⟨b2, 6, none⟩ (.int .i64 (1 + (tm : Int)))).setCell ⟨b2, 7, none⟩ (.int .i64 (1 + (tw : Int)))).setCell ⟨b2, 8, none⟩ (.int .i64 (1 + (d.cancel : Int)))).setCell ⟨b2, 9, none⟩ (.int .i64 (ts : Int))) n0 b1 b2 #[.int .u8 (d.form : Int), .int .u8 (d.len : Int), .int .u8 (d.speed : Int), .int .u16 (d.mute : Int), .int .u16 (d.wait : Int), .int .u8 (d.cancel : Int), .int .u8 (d.stay : Int), .int .u8 (d.join : Int), .slice Ar kr cr] #[.slice A0 k0 c0, .slice Av k1 cv, .slice A2 vs.length c2, .slice A3 k3 c3, .slice none 0 0, .int .i64 (1 + (sp : Int)), .int .i64 (1 + (tm : Int)), .int .i64 (1 + (tw : Int)), .int .i64 (1 + (d.cancel : Int)), .int .i64 (ts : Int)] := mk8.set 9 _
          have HM9 : Hid (Mk ((((V4.setCell ⟨b2, 6, none⟩ (.int .i64 (1 + (tm : Int)))).setCell ⟨b2, 7, none⟩ (.int .i64 (1 + (tw : Int)))).setCell ⟨b2, 8, none⟩ (.int .i64 (1 + (d.cancel : Int)))).setCell ⟨b2, 9, none⟩ (.int .i64 (ts : Int))).drew n0 b1 b2 #[.int .u8 (d.form : Int), .int .u8 (d.len : Int), .int .u8 (d.speed : Int), .int .u16 (d.mute : Int), .int .u16 (d.wait : Int), .int .u8 (d.cancel : Int), .int .u8 (d.stay : Int), .int .u8 (d.join : Int), .slice Ar kr cr] #[.slice A0 k0 c0, .slice Av k1 cv, .slice A2 vs.length c2, .slice A3 k3 c3, .slice none 0 0, .int .i64 (1 + (sp : Int)), .int .i64 (1 + (tm : Int)), .int .i64 (1 + (tw : Int)), .int .i64 (1 + (d.cancel : Int)), .int .i64 (ts : Int)]) := ⟨mk9.dr, mk9.res, mk9.lay, mk9.ne⟩
          have kp9 := (((HK4.out.set (p := ⟨b2, 6, none⟩) (by simp) (.int .i64 (1 + (tm : Int)))).set (p := ⟨b2, 7, none⟩) (by simp) (.int .i64 (1 + (tw : Int)))).set (p := ⟨b2, 8, none⟩) (by simp) (.int .i64 (1 + (d.cancel : Int)))).set (p := ⟨b2, 9, none⟩) (by simp) (.int .i64 (ts : Int))
          have HK9 : Hid (KeptL [b2] V3 ((((V4.setCell ⟨b2, 6, none⟩ (.int .i64 (1 + (tm : Int)))).setCell ⟨b2, 7, none⟩ (.int .i64 (1 + (tw : Int)))).setCell ⟨b2, 8, none⟩ (.int .i64 (1 + (d.cancel : Int)))).setCell ⟨b2, 9, none⟩ (.int .i64 (ts : Int))).drew) := ⟨kp9.os, kp9.tape, kp9.output, kp9.size, kp9.block⟩
          clear mk6 mk7 mk8 mk9 kp9 d3 d4 d5 d6 m1 m2 m3 m4 m5 m6 x1 x2 x3 x4 x5 x6 x7 y1 y2 y3 c6 c7 c8 c9 z6 z7 z8 z9 hnb hnb2
          generalize ((((V4.setCell ⟨b2, 6, none⟩ (.int .i64 (1 + (tm : Int)))).setCell ⟨b2, 7, none⟩ (.int .i64 (1 + (tw : Int)))).setCell ⟨b2, 8, none⟩ (.int .i64 (1 + (d.cancel : Int)))).setCell ⟨b2, 9, none⟩ (.int .i64 (ts : Int))).drew = V5 at *
          have p0 := HM9.out.lay.cell 0; have q0 := HM9.out.res.cell 0; have r0 := HM9.out.res.frozen 0
          have p1 := HM9.out.lay.cell 1; have q1 := HM9.out.res.cell 1; have r1 := HM9.out.res.frozen 1
          have p2 := HM9.out.lay.cell 2; have q2 := HM9.out.res.cell 2; have r2 := HM9.out.res.frozen 2
          have p3 := HM9.out.lay.cell 3; have q3 := HM9.out.res.cell 3; have r3 := HM9.out.res.frozen 3
          have p4 := HM9.out.lay.cell 4; have q4 := HM9.out.res.cell 4; have r4 := HM9.out.res.frozen 4
          have p5 := HM9.out.lay.cell 5; have q5 := HM9.out.res.cell 5; have r5 := HM9.out.res.frozen 5
          have p6 := HM9.out.lay.cell 6; have q6 := HM9.out.res.cell 6; have r6 := HM9.out.res.frozen 6
          have p7 := HM9.out.lay.cell 7; have q7 := HM9.out.res.cell 7; have r7 := HM9.out.res.frozen 7
          have p8 := HM9.out.lay.cell 8; have q8 := HM9.out.res.cell 8; have r8 := HM9.out.res.frozen 8
          have p9 := HM9.out.lay.cell 9; have q9 := HM9.out.res.cell 9; have r9 := HM9.out.res.frozen 9
          simp only [List.getElem?_toArray, List.getElem?_cons_zero, List.getElem?_cons_succ] at p0 q0 p1 q1 p2 q2 p3 q3 p4 q4 p5 q5 p6 q6 p7 q7 p8 q8 p9 q9
          go_wp2_with fail
          obtain ⟨hrow, hbel, hkp⟩ := put10 HM9.out.res (.slice A0 k0 c0) (.slice Av k1 cv) (.slice A2 vs.length c2) (.slice A3 k3 c3) (.slice none 0 0) (.int .i64 (1 + (sp : Int))) (.int .i64 (1 + (tm : Int))) (.int .i64 (1 + (tw : Int))) (.int .i64 (1 + (d.cancel : Int))) (.int .i64 (ts : Int))
          refine bodyPost_ret (results_cell_row rfl _ _ b1 33 #[.slice A0 k0 c0, .slice Av k1 cv, .slice A2 vs.length c2, .slice A3 k3 c3, .slice none 0 0, .int .i64 (1 + (sp : Int)), .int .i64 (1 + (tm : Int)), .int .i64 (1 + (tw : Int)), .int .i64 (1 + (d.cancel : Int)), .int .i64 (ts : Int)] (0, 0) _ rfl hrow Tryz.underlying33 rfl Tryz.size33) rfl ?_
          have e0 : (makeL d).speed = 1 + (sp : Int) := by show 1 + ((d.speed % (2 * unit d) : Nat) : Int) = _; rw [HSD.out.1]
          have e1 : (makeL d).mute = 1 + (tm : Int) := by show 1 + ((d.mute % 1000 : Nat) : Int) = _; rw [HTM.out.1]
          have e2 : (makeL d).wait = 1 + (tw : Int) := by show 1 + ((d.wait % 1000 : Nat) : Int) = _; rw [HTW.out.1]
          have e3 : (makeL d).cancel = 1 + (d.cancel : Int) := rfl
          have e4 : (makeL d).stay = (ts : Int) := by show ((d.stay % 4 : Nat) : Int) = _; rw [HTS.out.1]
          have up : ∀ k ∈ [b2], k ∈ [b2, b1] := by simp
          have k3 := (HK9.out.mono up).trans (hkp.mono (by simp))
          have k2 := (HKI.out.mono up).trans k3
          have k1' := (HK1.out.mono up).trans k2
          refine ⟨_, _, _, _, by rw [e0, e1, e2, e3, e4], ⟨?_, ?_, ?_, ?_, ?_⟩, ?_⟩
          · exact HNO.out.kept k1' (Other.two HMK.out.lay (by decide) HMK.out.res (by decide))
          · have h := IsSecs.of_own HO1.out (makeSecs_len _ _ _)
            have e : makeSecs d (makeEnds d) k1 = (makeL d).secs := by show _ = makeSecs d (makeEnds d) (makeEnds d).length; rw [HNE.out, HIE.out]
            rw [e] at h
            exact h.kept k2 (Other.two HM1.out.lay (by decide) HM1.out.res (by decide))
          · have e : (makeL d).parts = makeParts d ne := by show makeParts d (makeEnds d).length = _; rw [HNE.out]
            rw [e]
            exact HPT.out.kept k3 (Other.two HMI.out.lay (by decide) HMI.out.res (by decide)) (Other.two HMI.out.lay (by decide) HMI.out.res (by decide))
          · exact HQO.out.kept k1' (Other.two HMK.out.lay (by decide) HMK.out.res (by decide))
          · exact ⟨[], Tl.nil _ _, rfl, fun j h1 _ => absurd h1 (by simp)⟩
          · have hn := HN.out
            rw [← hn.1]
            exact HBL.out.trans (k1'.below (by have := HMK.out.dr.lt; omega) (by intro k hk; simp at hk; rcases hk with e | e <;> omega))

end Go.Proofs.YtagkgejdammflaaGreat
