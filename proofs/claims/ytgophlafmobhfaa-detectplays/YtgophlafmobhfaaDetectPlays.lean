/-
  PROVED: for every input the law DetectPlays returns true and leaves its arguments as they were: whatever detectors say, for however long: which parts are clear. No condition.
-/
import Derived.Test.YtgophlafmobhfaaRows
import Derived.Test.YtgophlafmobhfaaD9
import Derived.WalkKit
import Derived.ProofKit
import Derived.OpenShut
import Derived.ShutString
import Derived.ChangeOld
import Derived.Below
namespace Go.Proofs.Ytgophlafmobhfaa.detectPlays
open Go.ChangeShapes Go.WideShapes Go.ChangeAt Go.RowKit
open Go.ChangeMaps (open_string shut_string)
set_option linter.unusedVariables false
set_option maxRecDepth 100000

theorem own : ownKnob Try.prog.godebug = none := by kernel_rfl
theorem laidOut : laidOutB Try.prog = true := by kernel_rfl

theorem Try.info28 : (Try.prog.info? 28).map (fun i => (i.zero, i.size, i.bytes)) = some (some (.slice none 0 0), 1, 24) := by kernel_rfl
theorem made_s (n : Nat) : madeCells (Value.slice none 0 0).cells (n * 1) = (svals n fun _ => .slice none 0 0).toArray := by
  apply Array.ext
  · simp [madeCells, svals]
  · intro i h1 h2
    simp [madeCells, svals, Value.cells, Nat.mod_one]
theorem make_s (n : Nat) (hn : n ≤ 1000) (w : World) :
    (Instr.makeSlice 22 (.int .i64 (n : Int)) (.int .i64 (n : Int))).run Try.prog w = .ok (.slice (some ⟨w.heap.size, 0, none⟩) n n) (w.alloc (.cells (svals n fun _ => .slice none 0 0).toArray 28)) := by
  obtain ⟨i0, hi, hz0, hz1, hz2⟩ := info_parts Try.info28
  have h := run_make (P := Try.prog) w 22 28 i0 (.slice none 0 0) Try.underlying22 hi hz0 .i64 .i64 (n : Int) (n : Int) (by omega) (Int.le_refl _) (by rw [hz2]; omega) (by omega)
  rw [hz1, Int.toNat_natCast, made_s] at h
  exact h

theorem PS.rowAt {w w1 : World} {B pb n : Nat} {vs : Nat → Value} {rows : Nat → List Nat} (p : PS w B pb n vs rows) (k : Nat) (hk : k < n) (hg : w.grownBy w1 (vs k).ownBlock) : Row w1 pb 28 (svals n vs).toArray :=
  p.row.grown hg (by
    intro e
    obtain ⟨_, h2⟩ := p.own k hk
    rcases h2 with ⟨e2, _⟩ | ⟨g, cap, cur, e2, _, hh, _⟩
    · rw [e2] at e; cases e
    · rw [e2] at e
      have e3 : pb = g := by simpa [Value.ownBlock] using e
      subst e3
      have := p.row
      unfold Row at this
      rw [this] at hh
      injection hh with hh
      injection hh with _ hh _
      exact absurd hh (by decide))

theorem Row.keepOwn {w w' : World} {B k t pb n : Nat} {cs : Array Value} {vs : Nat → Value} {rows : Nat → List Nat} (h : Row w k t cs) (p : PS w B pb n vs rows) (j : Nat) (hj : j < n) (hK : KeptL (pb :: (vs j).ownBlock.toList) w w') (h1 : t ≠ 28) (h2 : t ≠ 5) : Row w' k t cs := by
  refine hK.row h ?_
  intro hq
  rcases List.mem_cons.1 hq with e | e
  · exact h.ne p.row h1 e
  · exact own_ne (p.own j hj) h (Ne.symm h2) (by simpa using e : (vs j).ownBlock = some k).symm

theorem mix_zero (said : List (List Nat)) (i : Nat) : mixH said i 0 = hist said i := by funext j; simp [mixH]
theorem mix_all (said : List (List Nat)) (i n k : Nat) (h : k < n) : mixH said i n k = hist said (i + 1) k := by simp [mixH, h]
theorem mix_at (said : List (List Nat)) (i k : Nat) : mixH said i k k = hist said i k := by simp [mixH]
theorem mix_put (said : List (List Nat)) (i k : Nat) (h : i < said.length) : mixH said i (k + 1) k = mixH said i k k ++ [said[i].getD k 9] := by
  rw [mix_at, ← hist_succ said i k h]; simp [mixH]
theorem mix_other (said : List (List Nat)) (i k j : Nat) (h : j ≠ k) : mixH said i (k + 1) j = mixH said i k j := by
  unfold mixH
  by_cases c : j < k
  · simp [c, show j < k + 1 by omega]
  · simp [c, show ¬ j < k + 1 by omega]

set_option maxHeartbeats 8000000 in
theorem walk (a0 : Int) (a1 : Int) (r2 : Value) (rows2 : List (List Nat)) (w : World) (w0 : (Lit.int .i64 a0).wf = true) (w1 : (Lit.int .i64 a1).wf = true) (w2 : BRows w w.heap.size r2 rows2 ∧ rows2.length ≤ 9223372036854775807 ∧ (∀ r ∈ rows2, r.length ≤ 9223372036854775807) ∧ ∀ r ∈ rows2, ∀ y ∈ r, y < 256) :
    Calls Try.prog 3 #[.int .i64 a0, .int .i64 a1, r2] w fun e w' => e = .returned (.bool true) ∧ Below w.heap.size w w' := by
  obtain ⟨hbr, -, -, -⟩ := w2
  obtain ⟨A, cc, hr2⟩ := hbr.len
  subst hr2
  have HI0 := Lib.hid (i64_in w0)
  have HBR := Lib.hid hbr
  obtain ⟨N, hN⟩ : ∃ N, N = rows2.length := ⟨_, rfl⟩
  rw [← hN] at HBR ⊢
  have HN := Lib.hid hN
  clear hbr w0 w1 hN
  obtain ⟨i5, hi5, hz50, hz51, hz52⟩ := info_parts Try.info5
  by_cases hbig : 60 < N
  · have hbig2 : (60 : Int) < (N : Int) := by omega
    go_enter Try.func3, Try.ntmps3
    go_wp2_with fail
    refine (stays_any w).mono ?_; rintro e x1 ⟨rfl, hb⟩
    have HB1 := Lib.hid hb
    clear hb
    go_wp2_with fail
    refine (stays_any x1).mono ?_; rintro e x2 ⟨rfl, hb2⟩
    have HB2 := Lib.hid (HB1.out.trans (hb2.mono HB1.out.size))
    clear hb2
    go_wp2_with fail
    go_ret
    exact ⟨rfl, HB2.out⟩
  · have hbig2 : ¬ (60 : Int) < (N : Int) := by omega
    go_enter Try.func3, Try.ntmps3
    go_wp2_with fail
    refine (stays_any w).mono ?_; rintro e x1 ⟨rfl, hb⟩
    have HB1 := Lib.hid hb
    clear hb
    go_wp2_with fail
    refine (fs_new w x1 w.heap.size a0 a1 HB1.out.size HB1.out).mono ?_; rintro e x2 ⟨g, h, rfl, hf, -, -⟩
    obtain ⟨P, hP⟩ : ∃ P, P = partsN a0 := ⟨_, rfl⟩
    obtain ⟨S, hS⟩ : ∃ S, S = stayS a1 := ⟨_, rfl⟩
    rw [← hP, ← hS] at hf
    have HF := Lib.hid hf
    have HP := Lib.hid hP; have HS := Lib.hid hS
    have hP16 : P ≤ 16 := hf.fi.n16
    have HS0 : Hid (0 ≤ S) := hf.fi.stay.1
    clear hf hP hS
    go_upto_if 26 with (fail)
    go_cut [0] (fun v wx => v = .int .i64 (max a0 0) ∧ wx = x2)
    case first =>
      by_cases h0 : a0 < 0
      · have HE : Hid ((0 : Int) = max a0 0) := by show _ = _; omega
        go_wp2_with fail
        go_meet
        case rel => exact ⟨by rw [← HE.out], rfl⟩
      · have HE : Hid (a0 = max a0 0) := by show _ = _; omega
        go_wp2_with fail
        go_meet
        case rel => exact ⟨by rw [← HE.out], rfl⟩
    case rest =>
    obtain ⟨rfl, hw2⟩ := hcut
    have hw3 := hw2.symm
    subst hw3
    obtain ⟨M, hM⟩ : ∃ M, M = max a0 0 := ⟨_, rfl⟩
    rw [← hM]
    have HM := Lib.hid hM
    clear hM
    go_upto_if 28 with (fail)
    go_cut [0] (fun v wx => v = .int .i64 (P : Int) ∧ wx = x2)
    case first =>
      have HPV : Hid (P = partsN a0) := HP.out
      by_cases h0 : 16 < M
      · have HE : Hid ((16 : Int) = (P : Int)) := by show _ = _; rw [HP.out]; unfold partsN; have := HM.out; omega
        go_wp2_with fail
        go_meet
        case rel => exact ⟨by rw [← HE.out], rfl⟩
      · have HE : Hid (M = (P : Int)) := by show _ = _; rw [HP.out]; unfold partsN; have := HM.out; omega
        go_wp2_with fail
        go_meet
        case rel => exact ⟨by rw [← HE.out], rfl⟩
    case rest =>
    obtain ⟨rfl, hw2⟩ := hcut
    have hw3 := hw2.symm
    subst hw3
    clear HM M
    have hmk := make_s P (by omega)
    have HPS := Lib.hid (PS.start x2 w.heap.size P HF.out.size)
    have HFA := Lib.hid (HF.out.alloc (.cells (svals P fun _ => .slice none 0 0).toArray 28))
    go_upto_region 9 with (fail)
    obtain ⟨pb, hpb⟩ : ∃ b, b = x2.heap.size := ⟨_, rfl⟩
    rw [← hpb] at HPS
    rw [← hpb]
    generalize x2.alloc (.cells (svals P fun _ => .slice none 0 0).toArray 28) = x3 at *
    clear hpb HF HB1 hmk
    go_wp2_with fail
    go_loopw [9] (fun t wr => ∃ i : Nat, i ≤ N ∧ t = .int .i64 i ∧ Hid (∃ c vs, (∀ k, k < P → c k = (cntL (hist rows2 i k) : Int)) ∧ FS w wr w.heap.size g h P c S ∧ PS wr w.heap.size pb P vs (hist rows2 i))) (fun t _ => N - (intOf t).toNat)
    case atStart => exact ⟨0, Nat.zero_le _, rfl, _, _, fun k _ => by rw [hist_zero]; rfl, HFA.out, HPS.out.eq fun k _ => (hist_zero rows2 k).symm⟩
    case round =>
      obtain ⟨i, hi, rfl, HJ⟩ := hrel
      obtain ⟨c, vs, hcc, hfa, hps⟩ := HJ.out
      by_cases hlt : i < N
      · have hir : i < rows2.length := by have := HN.out; omega
        have HIR := Lib.hid hir
        have HCN : Hid (∀ k, k < P → stepC c rows2[i] k = (cntL (hist rows2 (i + 1) k) : Int)) := fun k hk => hist_cnt rows2 i k hir c (hcc k hk)
        have HMP : Hid (∀ k, mixH rows2 i (k + 1) k = mixH rows2 i k k ++ [rows2[i].getD k 9]) := fun k => mix_put rows2 i k hir
        have HHL : Hid (∀ j k, (hist rows2 j k).length ≤ 60) := fun j k => by have := hist_len rows2 j k; have := HN.out; omega
        obtain ⟨b, o, u, hA, hb0, hcell, hrow⟩ := HBR.out.row i hir
        subst hA
        have HROW := Lib.hid hrow
        generalize rows2[i] = raw at *
        have HRAW := Lib.hid (Ra.of_rd HROW.out hfa.below hfa.fi.lo.2)
        obtain ⟨Au, cu, hu, -⟩ := HROW.out
        subst hu
        rw [bvals_length] at hcell
        rw [bvals_length] at HRAW
        rw [bvals_length] at HROW
        have e0 := (hfa.below.cell (p := ⟨b, o + i, none⟩) hb0).trans hcell
        have HF0 := Lib.hid hfa; have HP0 := Lib.hid hps
        have hpp : ((P : Int) == (P : Int)) = true := by simp
        clear hcc hfa hps HJ HFA HPS hrow hir
        go_wp2_with fail
        refine (fs_step w _ _ g h P c _ _ _ HF0.out HRAW.out).mono ?_; rintro e y1 ⟨k1, rfl, _, hf1, hr1, hk1⟩
        have HP1 := Lib.hid (HP0.out.kept hk1 (Other.one HF0.out.fi.cnt (by decide)) (by simpa using HP0.out.row.ne HF0.out.fi.cnt (by decide)))
        have HF1 := Lib.hid hf1
        have HR1 := Lib.hid hr1
        generalize stepC c raw = c1 at *
        clear hf1 hr1 hk1 HRAW HF0 HP0 e0
        go_wp2_with fail
        go_loopw [11] (fun t wr => ∃ j : Nat, j ≤ P ∧ t = .int .i64 j ∧ Hid (∃ vs, FS w wr w.heap.size g h P c1 S ∧ PS wr w.heap.size pb P vs (mixH rows2 i j) ∧ Row wr k1 4 (gvals P (toldC c1 S)).toArray)) (fun t _ => P - (intOf t).toNat)
        case atStart => exact ⟨0, Nat.zero_le _, rfl, _, HF1.out, by rw [mix_zero]; exact HP1.out, HR1.out⟩
        case round =>
          obtain ⟨j, hj, rfl, HJ2⟩ := hrel
          obtain ⟨vs2, hf2, hp2, hr2⟩ := HJ2.out
          by_cases hltj : j < P
          · have HF2 := Lib.hid hf2; have HP2 := Lib.hid hp2; have HR2 := Lib.hid hr2
            have e0 := (hf2.below.cell (p := ⟨b, o + i, none⟩) hb0).trans hcell
            have HBW := Lib.hid hf2.below
            clear hf2 hp2 hr2 HJ2 HF1 HP1 HR1
            go_upto_if 58 with (fail)
            obtain ⟨by9, hby9⟩ : ∃ x, x = raw.getD j 9 := ⟨_, rfl⟩
            have HBY := Lib.hid hby9
            clear hby9
            go_cut [12] (fun v wx => v = .int .u8 (by9 : Int) ∧ wx = wr)
            case first =>
              by_cases hjl : j < raw.length
              · have hjl2 : (j : Int) < (raw.length : Int) := by omega
                obtain ⟨bq, oq, hAq, hbq, hcq⟩ := HROW.out.at (bvals_get raw j hjl)
                subst hAq
                have e2 := (HBW.out.cell (p := ⟨bq, oq + j, none⟩) hbq).trans hcq
                have hby : raw[j] = by9 := by rw [HBY.out]; simp [List.getD, hjl]
                rw [hby] at e2
                clear hby hcq
                go_wp2_with fail
                go_meet
                case rel => exact ⟨rfl, rfl⟩
              · have hjl2 : ¬ (j : Int) < (raw.length : Int) := by omega
                have HE : Hid ((9 : Nat) = by9) := by show _ = _; rw [HBY.out]; simp [List.getD, List.getElem?_eq_none (by omega : raw.length ≤ j)]
                go_wp2_with fail
                go_meet
                case rel => exact ⟨by rw [← HE.out]; rfl, rfl⟩
            case rest =>
            obtain ⟨rfl, hw2⟩ := hcut
            have hw3 := hw2.symm
            subst hw3
            clear e0
            have q0 := HP2.out.row.cell j
            rw [List.getElem?_toArray, svals_get P vs2 j hltj] at q0
            have hbl : Below wr.heap.size wr (wr.alloc (.cells #[.int .u8 (by9 : Int)] 5)) := (Below.refl _ _).alloc (Nat.le_refl _) _
            have HPA := Lib.hid (HP2.out.call hbl)
            have HFA2 := Lib.hid (HF2.out.call hbl)
            have HRA2 := Lib.hid (HR2.out.alloc (.cells #[.int .u8 (by9 : Int)] 5))
            have HOW := Lib.hid (HPA.out.own j hltj)
            have HL60 : Hid ((mixH rows2 i j j).length ≤ 60) := by show _ ≤ _; rw [mix_at]; exact HHL.out i j
            have HSZ : Hid (w.heap.size ≤ wr.heap.size) := HF2.out.size
            clear hbl
            have HV : Hid (∃ A c, vs2 j = .slice A (mixH rows2 i j j).length c) := own_slice HOW.out
            obtain ⟨Aj, cj, hvj⟩ := HV.out
            have HVJ := Lib.hid hvj
            rw [hvj] at q0
            clear hvj HV
            have hown0 : Hid ((wr.alloc (.cells #[.int .u8 (by9 : Int)] 5)).ownsRow w.heap.size 5 1 (.slice Aj (mixH rows2 i j j).length cj) (mixH rows2 i j j).length (bvals (mixH rows2 i j j))) := by
              have := HOW.out; rw [HVJ.out] at this; exact this
            clear HOW
            go_wp2_with (at_builtin; refine wpList_append_own_at _ rfl (.tmp 71) (.tmp 73) 28 rfl w.heap.size 5 i5 (.int .u8 0) 1 1 Try.underlying28 hi5 hz50 hz51 hz52 rfl (by decide) _ _ _ rfl hown0.out ⟨wr.heap.size, 0, none⟩ 1 1 [.int .u8 (by9 : Int)] rfl rfl (one_new wr 5 _) (one_cell rfl) (by have := HL60.out; unfold maxLen; omega) (by have := HL60.out; omega) (by have := HSZ.out; simp; omega) ?_)
            intro v3 w3 hown3 hgrow3 _ hat3
            have hgr : (wr.alloc (.cells #[.int .u8 (by9 : Int)] 5)).grownBy w3 (vs2 j).ownBlock := by rw [HVJ.out]; exact hgrow3
            have hown4 : w3.ownsRow w.heap.size 5 1 v3 ((mixH rows2 i j j).length + 1) (bvals (mixH rows2 i j j ++ [by9])) := by
              have e : bvals (mixH rows2 i j j ++ [by9]) = bvals (mixH rows2 i j j) ++ [.int .u8 (by9 : Int)] := by simp [bvals]
              rw [e]; exact hown3
            have hrow3 := PS.rowAt HPA.out j hltj hgr
            have HPU := Lib.hid (HPA.out.push j hltj by9 v3 hown4 hgr (by rw [HVJ.out]; simpa using hat3) (rows' := mixH rows2 i (j + 1)) (by rw [HMP.out j, HBY.out]) (fun k hk => mix_other rows2 i j k hk))
            have HF3 := Lib.hid (HFA2.out.push HPA.out j hltj HPU.out.2)
            have HR3 := Lib.hid (Row.keepOwn HRA2.out HPA.out j hltj HPU.out.2 (by decide) (by decide))
            have z3 := hrow3.frozen j
            have y3 := hrow3.cell j
            rw [List.getElem?_toArray, svals_get P vs2 j hltj] at y3
            have HO3 := Lib.hid hown4
            obtain ⟨A3, c3, hv3⟩ := own_slice hown3
            subst hv3
            clear hown3 hgrow3 hat3 hgr hown4 hrow3 HPA HFA2 HRA2 hown0 q0
            obtain ⟨L3, hL3⟩ : ∃ L, L = (mixH rows2 i j j).length + 1 := ⟨_, rfl⟩
            rw [← hL3] at HPU HF3 HR3 HO3 ⊢
            have HL3 := Lib.hid hL3
            clear hL3
            go_upto_region 22 with (fail)
            have HP4 := Lib.hid HPU.out.1
            clear HPU HO3
            generalize w3.setCell ⟨pb, j, none⟩ (.slice A3 L3 c3) = w4 at *
            clear y3 z3
            obtain ⟨vs3, hvs3⟩ : ∃ f, f = (fun k => if k = j then Value.slice A3 L3 c3 else vs2 k) := ⟨_, rfl⟩
            have hvj : vs3 j = .slice A3 L3 c3 := by rw [hvs3]; simp
            rw [← hvs3] at HP4
            have q4 := HP4.out.row.cell j
            rw [List.getElem?_toArray, svals_get P vs3 j hltj, hvj] at q4
            have ho4 := HP4.out.own j hltj
            rw [hvj, mix_all rows2 i (j + 1) j (by omega)] at ho4
            have HRD4 := Lib.hid (Rd.of_own ho4)
            have HLE : Hid ((hist rows2 (i + 1) j).length ≤ 1000000) := by have := HHL.out (i + 1) j; show _ ≤ _; omega
            have HCV := Lib.hid (HCN.out j hltj)
            have HRC := Lib.hid (refClear_any w4 w4.heap.size _ (hist rows2 (i + 1) j) a1 HRD4.out HLE.out)
            rw [← HCV.out, ← HS.out] at HRC
            obtain ⟨tb, htb⟩ : ∃ b, decide (S < c1 j) = b := ⟨_, rfl⟩
            rw [htb] at HRC
            have HNX : Hid (∀ n, FS w (w4.drewN n) w.heap.size g h P c1 S ∧ PS (w4.drewN n) w.heap.size pb P vs3 (mixH rows2 i (j + 1)) ∧ Row (w4.drewN n) k1 4 (gvals P (toldC c1 S)).toArray) := fun n => ⟨HF3.out.drew n, HP4.out.call (Below.drewN (Below.refl _ _) n), HR3.out⟩
            have hcf : cntF P c1 (j : Int) = c1 j := by unfold cntF; rw [if_pos (by omega)]; simp
            have HCL : Hid (∀ m, Calls Try.prog 12 #[.pointer (some ⟨g, 0, none⟩), .int .i64 (j : Int)] (w4.drewN m) fun e w' => e = .returned (.bool tb) ∧ ∃ n, w' = (w4.drewN m).drewN n) := fun m => (clear_any _ _ g h P c1 S _ (HNX.out m).1.fi).mono fun _ _ ⟨he, hw⟩ => ⟨by rw [he]; unfold clrF; rw [hcf, htb], hw⟩
            have HCT : Hid (∀ m, Calls Try.prog 13 #[.pointer (some ⟨g, 0, none⟩), .int .i64 (j : Int)] (w4.drewN m) fun e w' => e = .returned (.int .i64 (c1 j)) ∧ w' = w4.drewN m) := fun m => (count_any _ _ g h P c1 S _ (HNX.out m).1.fi).mono fun _ _ ⟨he, hw⟩ => ⟨by rw [he, hcf], hw.symm⟩
            have HRN : Hid (∀ m, Calls Try.prog 14 #[.slice A3 L3 c3] (w4.drewN m) fun e w' => e = .returned (.int .i64 (c1 j)) ∧ w' = w4.drewN m) := fun m => (refCount_any _ (w4.drewN m).heap.size _ (hist rows2 (i + 1) j) (HRD4.out.up (Below.drewN (Below.refl _ _) m)) HLE.out).mono fun _ _ ⟨he, hw⟩ => ⟨by rw [he, HCV.out], hw.symm⟩
            have p3 := HR3.out.cell j
            rw [List.getElem?_toArray, gvals_get P _ j hltj] at p3
            rw [show toldC c1 S j = tb from htb] at p3
            generalize c1 j = y at *
            have htb2 : (tb == tb) = true := by simp
            have htb3 : (tb != tb) = false := by simp
            have hyy : ((y : Int) == y) = true := by simp
            have hyy3 : ((y : Int) != y) = false := by simp
            clear ho4 HRD4 HLE HCV HF3 HP4 HR3 hcf htb hvj hvs3
            go_wp2_with fail
            refine HRC.out.mono ?_; rintro e w' ⟨rfl, rfl⟩
            clear HRC
            go_upto_region 23 with (fail)
            go_quiet (first | (go_at_call 12; (with_reducible exact Calls.quiet_of (HCL.out _))) | (go_at_call 13; (with_reducible exact Calls.quiet_of_same (HCT.out _))) | (go_at_call 14; (with_reducible exact Calls.quiet_of_same (HRN.out _))))
            go_wp2_with fail
            go_roundw
            case rel => exact ⟨j + 1, by omega, by go_num, _, HNX.out _⟩
            case measure => simp [intOf]; omega
          · have hjP : j = P := by omega
            have HJP : Hid (∀ k, k < P → mixH rows2 i j k = hist rows2 (i + 1) k) := fun k hk => mix_all rows2 i j k (by omega)
            have HF4 := Lib.hid hf2; have HP4 := Lib.hid (hp2.eq HJP.out)
            have HC0 : Hid (cntF P c1 (P : Int) = 0) := by show _ = _; unfold cntF; rw [if_neg (by omega)]
            have HC1 : Hid (cntF P c1 (-1) = 0) := by show _ = _; unfold cntF; rw [if_neg (by omega)]
            have HL0 : Hid (clrF P c1 S (P : Int) = false) := by show _ = _; unfold clrF; rw [HC0.out]; exact decide_eq_false (by have := HS0.out; omega)
            have HL1 : Hid (clrF P c1 S (-1) = false) := by show _ = _; unfold clrF; rw [HC1.out]; exact decide_eq_false (by have := HS0.out; omega)
            clear hf2 hp2 hr2 HJ2 HF1 HP1 HR1 hjP
            go_wp2_with fail
            refine (clear_any wr _ g h P c1 S _ HF4.out.fi).mono ?_; rintro e w' ⟨rfl, m1, rfl⟩
            rw [HL0.out]
            have HF5 := Lib.hid (HF4.out.drew m1)
            have HP5 := Lib.hid (HP4.out.call (Below.drewN (Below.refl _ _) m1))
            generalize wr.drewN m1 = w5 at *
            clear HF4 HP4
            go_wp2_with fail
            refine (clear_any w5 _ g h P c1 S _ HF5.out.fi).mono ?_; rintro e w' ⟨rfl, m2, rfl⟩
            rw [HL1.out]
            have HF6 := Lib.hid (HF5.out.drew m2)
            have HP6 := Lib.hid (HP5.out.call (Below.drewN (Below.refl _ _) m2))
            generalize w5.drewN m2 = w6 at *
            clear HF5 HP5
            go_wp2_with fail
            refine (count_any w6 _ g h P c1 S _ HF6.out.fi).mono ?_; rintro e w' ⟨rfl, rfl⟩
            rw [HC0.out]
            go_wp2_with fail
            refine (count_any w6 _ g h P c1 S _ HF6.out.fi).mono ?_; rintro e w' ⟨rfl, rfl⟩
            rw [HC1.out]
            go_wp2_with fail
            go_roundw
            case rel => exact ⟨i + 1, by omega, by go_num, _, _, HCN.out, HF6.out, HP6.out⟩
            case measure => simp [intOf]; omega
      · have HFC := Lib.hid hfa.below
        clear hcc hfa hps HJ HFA HPS
        go_wp2_with fail
        go_ret
        exact ⟨rfl, HFC.out⟩

theorem lifted (os : Os) (started : os.Started) (H : Type) (enc : TypeId × Value → H) :
    ReturnsInHanded {} Try.checked os 3 .any (Rows.detectPlaysSpec.pre6 enc Try.prog Try.f3 Rows.detectPlaysRow.domain false) (Rows.detectPlaysSpec.post enc Try.prog Try.f3 false true false false) := by
  refine returnsInHanded_of_change (C := Try.checked) own started (by kernel_rfl) Try.func3
    (ChangeSpec.witness6 (enc := enc) (C := Try.checked) false ⟨#[], #[.int .i64 0, .int .i64 0, .slice none 0 0], []⟩ 8 (by kernel_rfl) (by kernel_rfl) (by kernel_rfl) (by kernel_rfl)) ?_
  intro W base args ds gs before hval0 hW hcnd _
  have hval : ∀ (j : Nat) t v, Try.f3.params[j]? = some t → args[j]? = some v → Value.okWide Try.prog W .any base t v := hval0
  have hW' := hW
  obtain ⟨p, q, hA0, hV, rfl, hfz, hnd⟩ := hW
  have hA : DataW.TrodAll enc Try.prog W 0 (fun _ => true) true Try.f3.params.toList args.toList ds p := hA0
  rw [Try.params3] at hA hval
  obtain ⟨v0, vs0, d0, ds0, p0, q0, hargs, rfl, rfl, h0, r0⟩ := trodAll_cons hA
  obtain ⟨v1, vs1, d1, ds1, p1, q1, rfl, rfl, rfl, h1, r1⟩ := trodAll_cons r0
  obtain ⟨v2, vs2, d2, ds2, p2, q2, rfl, rfl, rfl, h2, r2⟩ := trodAll_cons r1
  obtain ⟨rfl, rfl, rfl⟩ := trodAll_nil r2
  obtain rfl : args = #[v0, v1, v2] := by cases args; simp_all
  obtain ⟨rfl, rfl⟩ := trodVars_none hV
  obtain ⟨a0, rfl, rfl, rfl, w0⟩ := open_int Try.underlying3 (hval 0 3 v0 rfl rfl) h0
  obtain ⟨a1, rfl, rfl, rfl, w1⟩ := open_int Try.underlying2 (hval 1 2 v1 rfl rfl) h1
  have k2 := h2
  have lt2 : ∀ x ∈ p2, x.block < W.heap.size := by obtain ⟨m, hm⟩ := k2; exact DataW.trod_lt m _ _ _ hm
  obtain ⟨rows2, w2⟩ : ∃ rows : List (List Nat), BRows W W.heap.size v2 rows ∧ rows.length ≤ 9223372036854775807 ∧ (∀ r ∈ rows, r.length ≤ 9223372036854775807) ∧ ∀ r ∈ rows, ∀ y ∈ r, y < 256 := by
    obtain ⟨A, ln, cp, rfl⟩ := okWide_slice Try.underlying22 (hval 2 22 v2 rfl rfl)
    obtain ⟨fuel, hf⟩ := h2
    exact brows_of_trod (by simpa [Value.cells] using hf)
  clear hA0 hval0
  refine (walk a0 a1 v2 rows2 W w0 w1 w2).mono fun e W' ⟨he, bel⟩ => ?_
  subst he
  exact ⟨_, rfl, _, _, _, [], _, [], hW', trodAll_mk1 (shut_bool Try.underlying4 _), (trodAll_cons_mk (shut_int Try.underlying3 w0) (trodAll_cons_mk (shut_int Try.underlying2 w1) (trodAll_cons_mk (Below.trod laidOut (by kernel_rfl) (of_decide_eq_true (by kernel_rfl)) k2 bel lt2) trodAll_mk0))), rfl, bel.frame _, fun h => by cases h⟩

theorem over : Rows.detectPlaysRow.holds Try.pinned (OpenSpec.ofChange Rows.detectPlaysSpec) :=
  OpenClaim.holds_of_wide 3 Try.f3 rfl rfl rfl rfl rfl rfl rfl ⟨rfl, rfl, rfl, rfl, rfl⟩ rfl rfl rfl rfl rfl (by kernel_rfl) Try.func3 (by kernel_rfl)
    (of_decide_eq_true (by kernel_rfl)) (by unfold Func.isWrapper; first | (rw [if_pos (by decide +kernel)]; kernel_rfl) | (rw [if_neg (by decide +kernel)]; exact ⟨rfl, rfl⟩))
    (fun os started H enc _ => lifted os started H enc)

theorem proved : Rows.DetectPlaysSaid := over
#print axioms proved
end Go.Proofs.Ytgophlafmobhfaa.detectPlays
