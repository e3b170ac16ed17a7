/-
  PROVED: for every input the law DetectApart returns true and leaves its arguments as they were: what one part's detector says doesn't touch the others. No condition.
-/
import Derived.Test.YtgophlafmobhfaaRows
import Derived.Test.YtgophlafmobhfaaD9
import Derived.WalkKit
import Derived.ProofKit
import Derived.OpenShut
import Derived.ShutString
import Derived.ChangeOld
import Derived.Below
import Derived.SizedLaws
namespace Go.Proofs.Ytgophlafmobhfaa.detectApart
open Go.ChangeShapes Go.WideShapes Go.ChangeAt Go.RowKit
open Go.ChangeMaps (open_string shut_string)
set_option linter.unusedVariables false
set_option maxRecDepth 100000

theorem own : ownKnob Try.prog.godebug = none := by kernel_rfl
theorem laidOut : laidOutB Try.prog = true := by kernel_rfl

/-- What is known of a slice of integers that came in: nil, or a row of 'cap' cells. -/
def IsRow (k : IntKind) (w : World) (a : Option Addr) (len cap : Nat) (zs : List Int) : Prop :=
  (a = none ∧ len = 0 ∧ cap = 0 ∧ zs = []) ∨
  ∃ x, a = some x ∧ len ≤ cap ∧ cap ≤ maxLen ∧ zs.length = cap ∧ (∀ i, i < zs.length → w.cell? (x.add i) = some (.int k (zs.getD i 0))) ∧ ∀ n ∈ zs, (Lit.int k n).wf = true

set_option maxHeartbeats 8000000 in
theorem walk (r0 : Value) (rows0 : List (List Nat)) (a1 : Int) (a2 : Int) (a3 : Option Addr) (len3 cap3 : Nat) (z3 : List Int) (w : World) (w0 : BRows w w.heap.size r0 rows0 ∧ rows0.length ≤ 9223372036854775807 ∧ (∀ r ∈ rows0, r.length ≤ 140737488351232) ∧ ∀ r ∈ rows0, ∀ y ∈ r, y < 256) (w1 : (Lit.int .u8 a1).wf = true) (w2 : (Lit.int .u8 a2).wf = true) (w3 : IsRow .u8 w a3 len3 cap3 z3) :
    Calls Try.prog 7 #[r0, .int .u8 a1, .int .u8 a2, .slice a3 len3 cap3] w fun e w' => e = .returned (.bool true) ∧ Below w.heap.size w w' := by
  obtain ⟨hbr, -, hrr, -⟩ := w0
  obtain ⟨A, cc, hr0⟩ := hbr.len
  subst hr0
  obtain ⟨m, hm, hm2⟩ := u8_nat w1
  subst hm
  obtain ⟨n, hn, hn2⟩ := u8_nat w2
  subst hn
  obtain ⟨q, hql, hq256, hrd⟩ := arg_any w3
  have HBR := Lib.hid hbr; have HRR := Lib.hid hrr; have HRD := Lib.hid hrd; have HQL := Lib.hid hql
  obtain ⟨N, hN⟩ : ∃ N, N = rows0.length := ⟨_, rfl⟩
  rw [← hN] at HBR ⊢
  have HN := Lib.hid hN
  clear hbr hrr w1 w2 w3 hrd hql hq256 hN
  by_cases hbig : 40 < N
  · have hbig2 : (40 : Int) < (N : Int) := by omega
    go_enter Try.func7, Try.ntmps7
    go_wp2_with fail
    refine (stays_any w).mono ?_; rintro e x1 ⟨rfl, hb⟩
    have HB1 := Lib.hid hb
    clear hb
    go_wp2_with fail
    refine (stays_any x1).mono ?_; rintro e x2 ⟨rfl, hb2⟩
    have HB2 := Lib.hid (HB1.out.trans (hb2.mono HB1.out.size))
    clear hb2
    go_wp2_with fail
    go_ret
    exact ⟨rfl, HB2.out⟩
  · have hbig2 : ¬ (40 : Int) < (N : Int) := by omega
    obtain ⟨k, hk⟩ : ∃ k, k = m % 4 := ⟨_, rfl⟩
    obtain ⟨s, hs⟩ : ∃ s, s = n % 8 := ⟨_, rfl⟩
    have hk1 : k < 4 := by omega
    have hs1 : s < 8 := by omega
    have hk2 : (m : Int) % 4 = (k : Int) := by omega
    have hs2 : (n : Int) % 8 = (s : Int) := by omega
    have hk3 : (m : Int).tmod 4 = (k : Int) := by rw [Int.tmod_eq_emod_of_nonneg (by omega)]; exact hk2
    have hs3 : (n : Int).tmod 8 = (s : Int) := by rw [Int.tmod_eq_emod_of_nonneg (by omega)]; exact hs2
    clear hk hs
    go_enter Try.func7, Try.ntmps7
    go_wp2_with fail
    refine (stays_any w).mono ?_; rintro e x1 ⟨rfl, hb⟩
    have HB1 := Lib.hid hb
    clear hb
    go_wp2_with fail
    refine (fs_new w x1 w.heap.size 4 (s : Int) HB1.out.size HB1.out).mono ?_; rintro e x2 ⟨g, h, rfl, hf, -, -⟩
    rw [show partsN 4 = 4 from rfl, show stayS (s : Int) = (s : Int) by unfold stayS; omega] at hf
    have HF := Lib.hid hf
    clear hf
    go_wp2_with fail
    refine (fs_new w x2 w.heap.size 4 (s : Int) HF.out.size HF.out.below).mono ?_; rintro e x3 ⟨g', h', rfl, hf, hlo, hb3⟩
    rw [show partsN 4 = 4 from rfl, show stayS (s : Int) = (s : Int) by unfold stayS; omega] at hf
    have HF2 := Lib.hid hf
    have HNE : Hid (h ≠ h') := by have := HF.out.fi.cnt.lt; show _ ≠ _; omega
    have HF1 := Lib.hid (HF.out.call hb3)
    clear hf hlo hb3 HF
    go_wp2_with fail
    go_loopw [12] (fun t wr => ∃ i : Nat, i ≤ N ∧ t = .int .i64 i ∧ Hid (∃ c c', (∀ j, j ≠ k → c j = c' j) ∧ FS w wr w.heap.size g h 4 c (s : Int) ∧ FS w wr w.heap.size g' h' 4 c' (s : Int))) (fun t _ => N - (intOf t).toNat)
    case atStart => exact ⟨0, Nat.zero_le _, rfl, _, _, fun _ _ => rfl, HF1.out, HF2.out⟩
    case round =>
      obtain ⟨i, hi, rfl, HJ⟩ := hrel
      obtain ⟨c, c', hal, hfa, hfb⟩ := HJ.out
      by_cases hlt : i < N
      · have HJA := Lib.hid hal; have HFA0 := Lib.hid hfa; have HFB0 := Lib.hid hfb
        have hir : i < rows0.length := by have := HN.out; omega
        obtain ⟨b, o, u, hA, hb0, hcell, hrow⟩ := HBR.out.row i hir
        subst hA
        have HROW := Lib.hid hrow
        have HRL : Hid (rows0[i].length ≤ 140737488351232) := HRR.out _ (List.getElem_mem _)
        generalize rows0[i] = raw at *
        have e0 := (hfa.below.cell (p := ⟨b, o + i, none⟩) hb0).trans hcell
        clear hal hfa hfb HJ HF1 HF2 hrow
        by_cases hlen : raw.length < 4
        · obtain ⟨Au, cu, hu, -⟩ := HROW.out
          subst hu
          rw [bvals_length] at e0
          have hlen2 : (raw.length : Int) < 4 := by omega
          go_wp2_with fail
          go_roundw
          case rel => exact ⟨i + 1, by omega, by go_num, _, _, HJA.out, HFA0.out, HFB0.out⟩
          case measure => simp [intOf]; omega
        · obtain ⟨ad, cu, hu⟩ := slice_some HROW.out (by omega)
          subst hu
          have hlen2 : ¬ (raw.length : Int) < 4 := by omega
          have HL4 : Hid (4 ≤ raw.length) := by show _ ≤ _; omega
          go_upto_region 9 with (fail)
          have HRJ := Lib.hid (HROW.out.up HFA0.out.below)
          go_wp2_with fail
          refine (join_none wr _ ad raw cu HRJ.out (by have := HRL.out; omega)).mono ?_; rintro e z1 ⟨vx, rfl, hox, hbx⟩
          obtain ⟨gx, cx, hvx⟩ := own_some hox (by have := HL4.out; omega)
          subst hvx
          have HFA1 := Lib.hid (HFA0.out.call hbx)
          have HFB1 := Lib.hid (HFB0.out.call hbx)
          have HOX0 := Lib.hid hox
          have e1 := (HFA1.out.below.cell (p := ⟨b, o + i, none⟩) hb0).trans hcell
          clear hox hbx HRJ e0
          by_cases hib : i < len3
          · have hib2 : (i : Int) < (len3 : Int) := by omega
            have hiq : i < q.length := by have := HQL.out; omega
            obtain ⟨bq, oq, hAq, hbq, hcq⟩ := HRD.out.at (bvals_get q i hiq)
            subst hAq
            have e2 := (HFA1.out.below.cell (p := ⟨bq, oq + i, none⟩) hbq).trans hcq
            generalize q[i] = xb at *
            have hkl : k < raw.length := by have := HL4.out; omega
            have z0 := HOX0.out.frozenAt k
            have y0 := HOX0.out.cellAt k (by simpa using hkl)
            rw [bvals_get raw k hkl] at y0
            have HST := Lib.hid (HOX0.out.stored k (.int .u8 (xb : Int)))
            have hklI : (k : Int) < (raw.length : Int) := by omega
            go_upto_region 12 with (fail)
            have HKS : Hid (KeptL [gx] z1 (z1.setCell ⟨gx, k, none⟩ (.int .u8 (xb : Int)))) := (KeptL.refl _ _).set (by simp) _
            have hgB : ∀ q ∈ [gx], w.heap.size ≤ q := by
              intro q hq
              rw [List.mem_singleton] at hq
              have h1 := (HOX0.out.lt gx rfl).1
              have h2 := HFA0.out.size
              omega
            have HFA2 := Lib.hid (HFA1.out.upd HKS.out hgB (by have := own_ne HOX0.out HFA1.out.fi.row (by decide); simpa [Value.ownBlock] using this) (by have := own_ne HOX0.out HFA1.out.fi.cnt (by decide); simpa [Value.ownBlock] using this))
            have HFB2 := Lib.hid (HFB1.out.upd HKS.out hgB (by have := own_ne HOX0.out HFB1.out.fi.row (by decide); simpa [Value.ownBlock] using this) (by have := own_ne HOX0.out HFB1.out.fi.cnt (by decide); simpa [Value.ownBlock] using this))
            have HO2 : Hid ((z1.setCell ⟨gx, k, none⟩ (.int .u8 (xb : Int))).ownsRow wr.heap.size 5 1 (.slice (some ⟨gx, 0, none⟩) raw.length cx) (raw.set k xb).length (bvals (raw.set k xb))) := by
              show World.ownsRow _ _ _ _ _ _ _
              rw [List.length_set, ← bvals_put]
              exact HST.out.1
            generalize z1.setCell ⟨gx, k, none⟩ (.int .u8 (xb : Int)) = z2 at *
            clear HKS hgB HST HFA1 HFB1 HOX0 e1 e2 z0 y0 hbq hcq hkl hklI
            have HBN := Lib.hid (HFA2.out.below)
            have hcell2 := (HBN.out.cell (p := ⟨b, o + i, none⟩) hb0).trans hcell
            have HRAW := Lib.hid (Ra.of_rd HROW.out HBN.out HFA2.out.fi.lo.2)
            go_wp2_with fail
            refine (fs_step w _ _ g h 4 c _ _ _ HFA2.out HRAW.out).mono ?_; rintro e y1 ⟨k1, rfl, _, hfa, hr1, hk1⟩
            have HOX := Lib.hid (own_keptL HO2.out hk1 (Other.one HFA2.out.fi.cnt (by decide)))
            have HFBX := Lib.hid (HFA2.out.beside HFB2.out (Ne.symm HNE.out) hk1)
            have HFAX := Lib.hid hfa
            have HR1X := Lib.hid hr1
            have HRAX := Lib.hid (Ra.of_own HOX.out HFBX.out.fi.cnt)
            clear hfa hr1 hk1 HRAW HFA2 HFB2 HO2 HOX hcell2 HBN
            go_wp2_with fail
            refine (fs_step w _ _ g' h' 4 c' _ _ _ HFBX.out HRAX.out).mono ?_; rintro e y2 ⟨k2, rfl, _, hfb, hr2, hk2⟩
            have HFB := Lib.hid hfb
            have HR2 := Lib.hid hr2
            have HFA := Lib.hid (HFBX.out.beside HFAX.out HNE.out hk2)
            have HR1 := Lib.hid (hk2.row HR1X.out (by simpa using HR1X.out.ne HFBX.out.fi.cnt (by decide)))
            have HAL := Lib.hid (step_alike HJA.out raw (raw.set k xb) (fun j hj => says_put raw k xb j hj))
            obtain ⟨c1, hc1⟩ : ∃ f, f = stepC c raw := ⟨_, rfl⟩
            obtain ⟨c2, hc2⟩ : ∃ f, f = stepC c' (raw.set k xb) := ⟨_, rfl⟩
            rw [← hc1, ← hc2] at HAL
            rw [← hc1] at HFA HR1
            rw [← hc2] at HFB HR2
            clear hfb hr2 hk2 HFBX HFAX HR1X HRAX hc1 hc2 HJA

            go_wp2_with fail
            go_loopw [16] (fun t wr => ∃ j : Nat, j ≤ 4 ∧ t = .int .i64 j ∧ Hid (FS w wr w.heap.size g h 4 c1 (s : Int) ∧ FS w wr w.heap.size g' h' 4 c2 (s : Int) ∧ Row wr k1 4 (gvals 4 (toldC c1 (s : Int))).toArray ∧ Row wr k2 4 (gvals 4 (toldC c2 (s : Int))).toArray)) (fun t _ => 4 - (intOf t).toNat)
            case atStart => exact ⟨0, Nat.zero_le _, rfl, HFA.out, HFB.out, HR1.out, HR2.out⟩
            case round =>
              obtain ⟨j, hj, rfl, HJ2⟩ := hrel
              by_cases hlt4 : j < 4
              · have HNX : Hid (∀ n, FS w (wr.drewN n) w.heap.size g h 4 c1 (s : Int) ∧ FS w (wr.drewN n) w.heap.size g' h' 4 c2 (s : Int) ∧ Row (wr.drewN n) k1 4 (gvals 4 (toldC c1 (s : Int))).toArray ∧ Row (wr.drewN n) k2 4 (gvals 4 (toldC c2 (s : Int))).toArray) := fun n => ⟨HJ2.out.1.drew n, HJ2.out.2.1.drew n, HJ2.out.2.2.1, HJ2.out.2.2.2⟩
                by_cases hjk : j = k
                · have hjk2 : ((j : Int) == (k : Int)) = true := by simp [hjk]
                  have hjk3 : ((j : Int) != (k : Int)) = false := by simp [hjk]
                  clear hjk HJ2
                  go_upto_region 16 with (fail)
                  go_quiet (fail)
                  go_wp2_with fail
                  go_roundw
                  case rel => exact ⟨j + 1, by omega, by go_num, HNX.out _⟩
                  case measure => simp [intOf]; omega
                · have hjk2 : ((j : Int) == (k : Int)) = false := by rw [beq_eq_false_iff_ne]; omega
                  have hjk3 : ((j : Int) != (k : Int)) = true := by rw [bne_iff_ne]; omega
                  have hcc : cntF 4 c2 (j : Int) = cntF 4 c1 (j : Int) := by
                    unfold cntF
                    rw [if_pos (by omega), if_pos (by omega)]
                    simpa using (HAL.out j hjk).symm
                  have HC1 : Hid (∀ m, Calls Try.prog 13 #[.pointer (some ⟨g, 0, none⟩), .int .i64 (j : Int)] (wr.drewN m) fun e w' => e = .returned (.int .i64 (cntF 4 c1 (j : Int))) ∧ w' = wr.drewN m) := fun m => (count_any _ _ g h 4 c1 _ _ (HNX.out m).1.fi).mono fun _ _ ⟨he, hw⟩ => ⟨he, hw.symm⟩
                  have HC2 : Hid (∀ m, Calls Try.prog 13 #[.pointer (some ⟨g', 0, none⟩), .int .i64 (j : Int)] (wr.drewN m) fun e w' => e = .returned (.int .i64 (cntF 4 c1 (j : Int))) ∧ w' = wr.drewN m) := fun m => (count_any _ _ g' h' 4 c2 _ _ (HNX.out m).2.1.fi).mono fun _ _ ⟨he, hw⟩ => ⟨by rw [he, hcc], hw.symm⟩
                  have p0 := HJ2.out.2.2.1.cell j
                  have p1 := HJ2.out.2.2.2.cell j
                  rw [List.getElem?_toArray, gvals_get 4 _ j hlt4] at p0 p1
                  have htt : toldC c2 (s : Int) j = toldC c1 (s : Int) j := by unfold toldC; rw [HAL.out j hjk]
                  rw [htt] at p1
                  generalize cntF 4 c1 (j : Int) = y at *
                  generalize toldC c1 (s : Int) j = tb at *
                  have hyy : ((y : Int) == y) = true := by simp
                  have htb2 : (tb == tb) = true := by simp
                  have htb3 : (tb != tb) = false := by simp
                  have hyy3 : ((y : Int) != y) = false := by simp
                  clear hjk HJ2 hcc htt
                  go_upto_region 16 with (fail)
                  go_quiet (first | (go_at_call 13; (with_reducible exact Calls.quiet_of_same (HC1.out _))) | (go_at_call 13; (with_reducible exact Calls.quiet_of_same (HC2.out _))))
                  go_wp2_with fail
                  go_roundw
                  case rel => exact ⟨j + 1, by omega, by go_num, HNX.out _⟩
                  case measure => simp [intOf]; omega
              · go_wp2_with fail
                go_roundw
                case rel => exact ⟨i + 1, by omega, by go_num, _, _, HAL.out, HJ2.out.1, HJ2.out.2.1⟩
                case measure => simp [intOf]; omega
          · have hib2 : ¬ (i : Int) < (len3 : Int) := by omega
            go_upto_region 12 with (fail)
            clear e1
            have HBN := Lib.hid (HFA1.out.below)
            have hcell2 := (HBN.out.cell (p := ⟨b, o + i, none⟩) hb0).trans hcell
            have HRAW := Lib.hid (Ra.of_rd HROW.out HBN.out HFA1.out.fi.lo.2)
            go_wp2_with fail
            refine (fs_step w _ _ g h 4 c _ _ _ HFA1.out HRAW.out).mono ?_; rintro e y1 ⟨k1, rfl, _, hfa, hr1, hk1⟩
            have HOX := Lib.hid (own_keptL HOX0.out hk1 (Other.one HFA1.out.fi.cnt (by decide)))
            have HFBX := Lib.hid (HFA1.out.beside HFB1.out (Ne.symm HNE.out) hk1)
            have HFAX := Lib.hid hfa
            have HR1X := Lib.hid hr1
            have HRAX := Lib.hid (Ra.of_own HOX.out HFBX.out.fi.cnt)
            clear hfa hr1 hk1 HRAW HFA1 HFB1 HOX0 HOX hcell2 HBN
            go_wp2_with fail
            refine (fs_step w _ _ g' h' 4 c' _ _ _ HFBX.out HRAX.out).mono ?_; rintro e y2 ⟨k2, rfl, _, hfb, hr2, hk2⟩
            have HFB := Lib.hid hfb
            have HR2 := Lib.hid hr2
            have HFA := Lib.hid (HFBX.out.beside HFAX.out HNE.out hk2)
            have HR1 := Lib.hid (hk2.row HR1X.out (by simpa using HR1X.out.ne HFBX.out.fi.cnt (by decide)))
            have HAL := Lib.hid (step_alike HJA.out raw raw (fun j hj => rfl))
            obtain ⟨c1, hc1⟩ : ∃ f, f = stepC c raw := ⟨_, rfl⟩
            obtain ⟨c2, hc2⟩ : ∃ f, f = stepC c' raw := ⟨_, rfl⟩
            rw [← hc1, ← hc2] at HAL
            rw [← hc1] at HFA HR1
            rw [← hc2] at HFB HR2
            clear hfb hr2 hk2 HFBX HFAX HR1X HRAX hc1 hc2 HJA

            go_wp2_with fail
            go_loopw [16] (fun t wr => ∃ j : Nat, j ≤ 4 ∧ t = .int .i64 j ∧ Hid (FS w wr w.heap.size g h 4 c1 (s : Int) ∧ FS w wr w.heap.size g' h' 4 c2 (s : Int) ∧ Row wr k1 4 (gvals 4 (toldC c1 (s : Int))).toArray ∧ Row wr k2 4 (gvals 4 (toldC c2 (s : Int))).toArray)) (fun t _ => 4 - (intOf t).toNat)
            case atStart => exact ⟨0, Nat.zero_le _, rfl, HFA.out, HFB.out, HR1.out, HR2.out⟩
            case round =>
              obtain ⟨j, hj, rfl, HJ2⟩ := hrel
              by_cases hlt4 : j < 4
              · have HNX : Hid (∀ n, FS w (wr.drewN n) w.heap.size g h 4 c1 (s : Int) ∧ FS w (wr.drewN n) w.heap.size g' h' 4 c2 (s : Int) ∧ Row (wr.drewN n) k1 4 (gvals 4 (toldC c1 (s : Int))).toArray ∧ Row (wr.drewN n) k2 4 (gvals 4 (toldC c2 (s : Int))).toArray) := fun n => ⟨HJ2.out.1.drew n, HJ2.out.2.1.drew n, HJ2.out.2.2.1, HJ2.out.2.2.2⟩
                by_cases hjk : j = k
                · have hjk2 : ((j : Int) == (k : Int)) = true := by simp [hjk]
                  have hjk3 : ((j : Int) != (k : Int)) = false := by simp [hjk]
                  clear hjk HJ2
                  go_upto_region 16 with (fail)
                  go_quiet (fail)
                  go_wp2_with fail
                  go_roundw
                  case rel => exact ⟨j + 1, by omega, by go_num, HNX.out _⟩
                  case measure => simp [intOf]; omega
                · have hjk2 : ((j : Int) == (k : Int)) = false := by rw [beq_eq_false_iff_ne]; omega
                  have hjk3 : ((j : Int) != (k : Int)) = true := by rw [bne_iff_ne]; omega
                  have hcc : cntF 4 c2 (j : Int) = cntF 4 c1 (j : Int) := by
                    unfold cntF
                    rw [if_pos (by omega), if_pos (by omega)]
                    simpa using (HAL.out j hjk).symm
                  have HC1 : Hid (∀ m, Calls Try.prog 13 #[.pointer (some ⟨g, 0, none⟩), .int .i64 (j : Int)] (wr.drewN m) fun e w' => e = .returned (.int .i64 (cntF 4 c1 (j : Int))) ∧ w' = wr.drewN m) := fun m => (count_any _ _ g h 4 c1 _ _ (HNX.out m).1.fi).mono fun _ _ ⟨he, hw⟩ => ⟨he, hw.symm⟩
                  have HC2 : Hid (∀ m, Calls Try.prog 13 #[.pointer (some ⟨g', 0, none⟩), .int .i64 (j : Int)] (wr.drewN m) fun e w' => e = .returned (.int .i64 (cntF 4 c1 (j : Int))) ∧ w' = wr.drewN m) := fun m => (count_any _ _ g' h' 4 c2 _ _ (HNX.out m).2.1.fi).mono fun _ _ ⟨he, hw⟩ => ⟨by rw [he, hcc], hw.symm⟩
                  have p0 := HJ2.out.2.2.1.cell j
                  have p1 := HJ2.out.2.2.2.cell j
                  rw [List.getElem?_toArray, gvals_get 4 _ j hlt4] at p0 p1
                  have htt : toldC c2 (s : Int) j = toldC c1 (s : Int) j := by unfold toldC; rw [HAL.out j hjk]
                  rw [htt] at p1
                  generalize cntF 4 c1 (j : Int) = y at *
                  generalize toldC c1 (s : Int) j = tb at *
                  have hyy : ((y : Int) == y) = true := by simp
                  have htb2 : (tb == tb) = true := by simp
                  have htb3 : (tb != tb) = false := by simp
                  have hyy3 : ((y : Int) != y) = false := by simp
                  clear hjk HJ2 hcc htt
                  go_upto_region 16 with (fail)
                  go_quiet (first | (go_at_call 13; (with_reducible exact Calls.quiet_of_same (HC1.out _))) | (go_at_call 13; (with_reducible exact Calls.quiet_of_same (HC2.out _))))
                  go_wp2_with fail
                  go_roundw
                  case rel => exact ⟨j + 1, by omega, by go_num, HNX.out _⟩
                  case measure => simp [intOf]; omega
              · go_wp2_with fail
                go_roundw
                case rel => exact ⟨i + 1, by omega, by go_num, _, _, HAL.out, HJ2.out.1, HJ2.out.2.1⟩
                case measure => simp [intOf]; omega
      · have HFC := Lib.hid hfa.below
        clear hal hfa hfb HJ HF1 HF2
        go_wp2_with fail
        go_ret
        exact ⟨rfl, HFC.out⟩

theorem lifted (os : Os) (started : os.Started) (H : Type) (enc : TypeId × Value → H) :
    ReturnsInHanded {} Try.checked os 7 .any (Rows.detectApartSpec.pre6 enc Try.prog Try.f7 Rows.detectApartRow.domain false) (Rows.detectApartSpec.post enc Try.prog Try.f7 false true false false) := by
  refine returnsInHanded_of_change_sized (C := Try.checked) own started (by kernel_rfl) Try.func7
    (ChangeSpec.witness6 (enc := enc) (C := Try.checked) false ⟨#[], #[.slice none 0 0, .int .u8 0, .int .u8 0, .slice none 0 0], []⟩ 8 (by kernel_rfl) (by kernel_rfl) (by kernel_rfl) (by kernel_rfl)) ?_
  intro W base args ds gs before hval0 hW hcnd hsz0 _
  have hval : ∀ (j : Nat) t v, Try.f7.params[j]? = some t → args[j]? = some v → Value.okWide Try.prog W .any base t v := hval0
  have hW' := hW
  obtain ⟨p, q, hA0, hV, rfl, hfz, hnd⟩ := hW
  have hA : DataW.TrodAll enc Try.prog W 0 (fun _ => true) true Try.f7.params.toList args.toList ds p := hA0
  have hsz : (DataW.weightsEach Try.prog (Try.f7.params.toList ++ Rows.detectApartSpec.plain.varTypes Try.prog) (ds ++ gs)).all (· ≤ reachBytes) = true := hsz0
  rw [Try.params7] at hA hval hsz
  obtain ⟨v0, vs0, d0, ds0, p0, q0, hargs, rfl, rfl, h0, r0⟩ := trodAll_cons hA
  obtain ⟨v1, vs1, d1, ds1, p1, q1, rfl, rfl, rfl, h1, r1⟩ := trodAll_cons r0
  obtain ⟨v2, vs2, d2, ds2, p2, q2, rfl, rfl, rfl, h2, r2⟩ := trodAll_cons r1
  obtain ⟨v3, vs3, d3, ds3, p3, q3, rfl, rfl, rfl, h3, r3⟩ := trodAll_cons r2
  obtain ⟨rfl, rfl, rfl⟩ := trodAll_nil r3
  obtain rfl : args = #[v0, v1, v2, v3] := by cases args; simp_all
  obtain ⟨rfl, rfl⟩ := trodVars_none hV
  have k0 := h0
  have lt0 : ∀ x ∈ p0, x.block < W.heap.size := by obtain ⟨m, hm⟩ := k0; exact DataW.trod_lt m _ _ _ hm
  obtain ⟨rows0, w0⟩ : ∃ rows : List (List Nat), BRows W W.heap.size v0 rows ∧ rows.length ≤ 9223372036854775807 ∧ (∀ r ∈ rows, r.length ≤ 140737488351232) ∧ ∀ r ∈ rows, ∀ y ∈ r, y < 256 := by
    obtain ⟨A, ln, cp, rfl⟩ := okWide_slice Try.underlying22 (hval 0 22 v0 rfl rfl)
    obtain ⟨fuel, hf⟩ := h0
    exact brows_tight (by simpa [Value.cells] using hf) (fun n hn => by simpa using List.all_eq_true.1 hsz _ (DataW.weights_mem_each (j := 0) rfl rfl n hn))
  obtain ⟨a1, rfl, rfl, rfl, w1⟩ := open_int Try.underlying5 (hval 1 5 v1 rfl rfl) h1
  obtain ⟨a2, rfl, rfl, rfl, w2⟩ := open_int Try.underlying5 (hval 2 5 v2 rfl rfl) h2
  obtain ⟨a3, len3, cap3, rfl⟩ := okWide_slice Try.underlying28 (hval 3 28 v3 rfl rfl)
  have k3 := h3
  have lt3 : ∀ x ∈ p3, x.block < W.heap.size := by obtain ⟨m, hm⟩ := k3; exact DataW.trod_lt m _ _ _ hm
  obtain ⟨z3, w3⟩ : ∃ zs, IsRow .u8 W a3 len3 cap3 zs := by
    obtain ⟨fuel, hf⟩ := h3
    rcases open_ints Try.underlying28 Try.underlying5 (by kernel_rfl) hf with ⟨hcs, _⟩ | ⟨x, l, c, zs, hcs, _, hl, hm, hz, _, hcell, hwz⟩
    · simp [Value.cells] at hcs
      obtain ⟨rfl, rfl, rfl⟩ := hcs
      exact ⟨[], .inl ⟨rfl, rfl, rfl, rfl⟩⟩
    · simp [Value.cells] at hcs
      obtain ⟨rfl, rfl, rfl⟩ := hcs
      exact ⟨zs, .inr ⟨_, rfl, hl, hm, by simpa using hz, hcell, hwz⟩⟩
  clear hA0 hval0 hsz0 hsz
  refine (walk v0 rows0 a1 a2 a3 len3 cap3 z3 W w0 w1 w2 w3).mono fun e W' ⟨he, bel⟩ => ?_
  subst he
  exact ⟨_, rfl, _, _, _, [], _, [], hW', trodAll_mk1 (shut_bool Try.underlying4 _), (trodAll_cons_mk (Below.trod laidOut (by kernel_rfl) (of_decide_eq_true (by kernel_rfl)) k0 bel lt0) (trodAll_cons_mk (shut_int Try.underlying5 w1) (trodAll_cons_mk (shut_int Try.underlying5 w2) (trodAll_cons_mk (Below.trod laidOut (by kernel_rfl) (of_decide_eq_true (by kernel_rfl)) k3 bel lt3) trodAll_mk0)))), rfl, bel.frame _, fun h => by cases h⟩

theorem over : Rows.detectApartRow.holds Try.pinned (OpenSpec.ofChange Rows.detectApartSpec) :=
  OpenClaim.holds_of_wide 7 Try.f7 rfl rfl rfl rfl rfl rfl rfl ⟨rfl, rfl, rfl, rfl, rfl⟩ rfl rfl rfl rfl rfl (by kernel_rfl) Try.func7 (by kernel_rfl)
    (of_decide_eq_true (by kernel_rfl)) (by unfold Func.isWrapper; first | (rw [if_pos (by decide +kernel)]; kernel_rfl) | (rw [if_neg (by decide +kernel)]; exact ⟨rfl, rfl⟩))
    (fun os started H enc _ => lifted os started H enc)

theorem proved : Rows.DetectApartSaid := over
#print axioms proved
end Go.Proofs.Ytgophlafmobhfaa.detectApart
