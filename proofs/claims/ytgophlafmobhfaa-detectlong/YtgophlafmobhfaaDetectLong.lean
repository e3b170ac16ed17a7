/-
  PROVED: for every input the law DetectLong returns true and leaves its arguments as they were: a part that is said to be clear for so many steps in a row is clear just behind the stay, however long that is. No condition.
-/
import Derived.Test.YtgophlafmobhfaaRows
import Derived.Test.YtgophlafmobhfaaD7
import Derived.WalkKit
import Derived.ProofKit
import Derived.OpenShut
import Derived.ShutString
import Derived.ChangeOld
import Derived.Below
namespace Go.Proofs.Ytgophlafmobhfaa.detectLong
open Go.ChangeShapes Go.WideShapes Go.ChangeAt Go.RowKit
open Go.ChangeMaps (open_string shut_string)
set_option linter.unusedVariables false
set_option maxRecDepth 100000

theorem own : ownKnob Try.prog.godebug = none := by kernel_rfl
theorem laidOut : laidOutB Try.prog = true := by kernel_rfl

theorem step_zero {c : Nat → Int} {x : Int} (h : c 0 = x) (h0 : 0 ≤ x) : stepC c [0] 0 = min (x + 1) 1001 := by
  unfold stepC nextC says; simp [h]

theorem step_other (c : Nat → Int) {b : Nat} (h : b ≠ 0) : stepC c [b] 0 = 0 := by
  unfold stepC nextC says; simp [h]

set_option maxHeartbeats 8000000 in
theorem walk (a0 : Int) (a1 : Int) (a2 : Int) (w : World) (w0 : (Lit.int .u16 a0).wf = true) (w1 : (Lit.int .u16 a1).wf = true) (w2 : (Lit.int .u8 a2).wf = true) :
    Calls Try.prog 4 #[.int .u16 a0, .int .u16 a1, .int .u8 a2] w fun e w' => e = .returned (.bool true) ∧ Below w.heap.size w w' := by
  obtain ⟨m, hm, hm2⟩ := u16_nat w0
  subst hm
  obtain ⟨n, hn, hn2⟩ := u16_nat w1
  subst hn
  obtain ⟨b, hb, hb2⟩ := u8_nat w2
  subst hb
  clear w0 w1 w2
  obtain ⟨k, hk⟩ : ∃ k, k = m % 1200 := ⟨_, rfl⟩
  obtain ⟨q, hq⟩ : ∃ q, q = n % 50 := ⟨_, rfl⟩
  have hk1 : k < 1200 := by omega
  have hq1 : q < 50 := by omega
  have hk2 : (m : Int) % 1200 = (k : Int) := by omega
  have hq2 : (n : Int) % 50 = (q : Int) := by omega
  have hk3 : (m : Int).tmod 1200 = (k : Int) := by rw [Int.tmod_eq_emod_of_nonneg (by omega)]; exact hk2
  have hq3 : (n : Int).tmod 50 = (q : Int) := by rw [Int.tmod_eq_emod_of_nonneg (by omega)]; exact hq2
  clear hk hq
  have hw3 : IntKind.i64.wrap ((k : Int) + 3) = (k : Int) + 3 := IntWalk.i64_in _ (by omega)
  by_cases hkk : 1000 < k
  · have hkk2 : (1000 : Int) < (k : Int) := by omega
    by_cases hbb : b = 0
    · subst hbb
      go_enter Try.func4, Try.ntmps4
      go_wp2_with fail
      refine (stays_any w).mono ?_; rintro e x1 ⟨rfl, hb⟩
      have HB1 := Lib.hid hb
      clear hb
      go_wp2_with fail
      refine (fs_new w x1 w.heap.size 1 (k : Int) HB1.out.size HB1.out).mono ?_; rintro e x2 ⟨g, h, rfl, hf, -, -⟩
      rw [show partsN 1 = 1 from rfl, show stayS (k : Int) = (1000 : Int) by unfold stayS; omega] at hf
      have HF := Lib.hid hf
      clear hf
      have HSB : Hid (1000 ≤ 1000) := by show _ ≤ _; omega
      have HBN : Hid (1 ≠ 0) := by show _ ≠ _; omega
      go_wp2_with fail
      go_loopw [9] (fun t wr => ∃ i : Nat, i ≤ q ∧ t = .int .i64 i ∧ Hid (∃ c, FS w wr w.heap.size g h 1 c (1000 : Int))) (fun t _ => q - (intOf t).toNat)
      case atStart => exact ⟨0, Nat.zero_le _, rfl, _, HF.out⟩
      case round =>
        obtain ⟨i, hi, rfl, HJ⟩ := hrel
        obtain ⟨c, hf⟩ := HJ.out
        by_cases hlt : i < q
        · have HL := Lib.hid (lit_ra hf 0)
          have HF1 := Lib.hid (hf.alloc (.cells #[.int .u8 ((0 : Nat) : Int)] 5))
          clear hf HJ HF
          go_wp2_with fail
          refine (fs_step w _ _ g h 1 c _ [0] _ HF1.out HL.out).mono ?_; rintro e w2 ⟨k2, rfl, _, hf, _, _⟩
          have HF2 := Lib.hid hf
          clear hf HL HF1
          go_wp2_with fail
          go_roundw
          case rel => exact ⟨i + 1, by omega, by go_num, _, HF2.out⟩
          case measure => simp [intOf]; omega
        · have HL := Lib.hid (lit_ra hf 1)
          have HF1 := Lib.hid (hf.alloc (.cells #[.int .u8 ((1 : Nat) : Int)] 5))
          clear hf HJ HF
          go_wp2_with fail
          refine (fs_step w _ _ g h 1 c _ [1] _ HF1.out HL.out).mono ?_; rintro e w2 ⟨k2, rfl, _, hf, _, _⟩
          have HF2 : Hid (∃ c, c 0 = 0 ∧ FS w w2 w.heap.size g h 1 c (1000 : Int)) := ⟨_, step_other c HBN.out, hf⟩
          clear hf HL HF1
          go_wp2_with fail
          go_loopw [10] (fun t wr => ∃ j : Nat, 1 ≤ j ∧ j ≤ 1000 + 4 ∧ t = .int .i64 j ∧ Hid (∃ c, c 0 = min ((j : Int) - 1) 1001 ∧ FS w wr w.heap.size g h 1 c (1000 : Int))) (fun t _ => 1000 + 4 - (intOf t).toNat)
          case atStart => 
            obtain ⟨c, hc, hf⟩ := HF2.out
            exact ⟨1, by omega, by omega, rfl, c, by rw [hc]; rfl, hf⟩
          case round =>
            obtain ⟨j, hj1, hj, rfl, HJ⟩ := hrel
            obtain ⟨c, hc, hf⟩ := HJ.out
            by_cases hlt2 : j ≤ 1000 + 3
            · have hlt3 : (j : Int) ≤ (1000 : Int) + 3 := by omega
              have HL := Lib.hid (lit_ra hf 0)
              have HF1 := Lib.hid (hf.alloc (.cells #[.int .u8 ((0 : Nat) : Int)] 5))
              have HC2 : Hid (stepC c [0] 0 = min (((j + 1 : Nat) : Int) - 1) 1001) := by
                show _ = _
                rw [step_zero hc (by omega)]; omega
              clear hf HJ HF2 hc
              by_cases hs : 1000 < j
              · have HT : Hid (toldC (stepC c [0]) (1000 : Int) 0 = true) := by
                  show decide _ = _
                  rw [HC2.out]
                  exact decide_eq_true (by have := HSB.out; omega)
                have hs2 : (1000 : Int) < (j : Int) := by omega
                clear hs
                go_wp2_with fail
                refine (fs_step w _ _ g h 1 c _ [0] _ HF1.out HL.out).mono ?_; rintro e w3 ⟨k3, rfl, _, hf, hr, _⟩
                have HF3 := Lib.hid hf
                have c0 := (told_row hr HT.out).cell 0
                simp only [cvals, List.map_cons, List.map_nil, List.getElem?_toArray, List.getElem?_cons_zero] at c0
                clear hf HL HF1 hr
                go_wp2_with fail
                go_roundw
                case rel => exact ⟨j + 1, by omega, by omega, by go_num, _, HC2.out, HF3.out⟩
                case measure => simp [intOf]; omega
              · have HT : Hid (toldC (stepC c [0]) (1000 : Int) 0 = false) := by
                  show decide _ = _
                  rw [HC2.out]
                  exact decide_eq_false (by omega)
                have hs2 : ¬ (1000 : Int) < (j : Int) := by omega
                clear hs
                go_wp2_with fail
                refine (fs_step w _ _ g h 1 c _ [0] _ HF1.out HL.out).mono ?_; rintro e w3 ⟨k3, rfl, _, hf, hr, _⟩
                have HF3 := Lib.hid hf
                have c0 := (told_row hr HT.out).cell 0
                simp only [cvals, List.map_cons, List.map_nil, List.getElem?_toArray, List.getElem?_cons_zero] at c0
                clear hf HL HF1 hr
                go_wp2_with fail
                go_roundw
                case rel => exact ⟨j + 1, by omega, by omega, by go_num, _, HC2.out, HF3.out⟩
                case measure => simp [intOf]; omega
            · have hlt3 : ¬ (j : Int) ≤ (1000 : Int) + 3 := by omega
              have HF3 := Lib.hid hf
              have HCN := Lib.hid (count_any wr w.heap.size g h 1 c _ 0 hf.fi)
              have e0 : cntF 1 c 0 = c 0 := rfl
              rw [e0, hc] at HCN
              have hle : min ((j : Int) - 1) 1001 ≤ 1001 := by omega
              generalize min ((j : Int) - 1) 1001 = y at *
              clear hf HJ HF2 hc e0
              go_wp2_with fail
              refine HCN.out.mono ?_; rintro e w' ⟨rfl, rfl⟩
              go_wp2_with fail
              go_ret
              exact ⟨rfl, HF3.out.below⟩
    · have hbb2 : ((b : Int) == 0) = false := by rw [beq_eq_false_iff_ne]; omega
      go_enter Try.func4, Try.ntmps4
      go_wp2_with fail
      refine (stays_any w).mono ?_; rintro e x1 ⟨rfl, hb⟩
      have HB1 := Lib.hid hb
      clear hb
      go_wp2_with fail
      refine (fs_new w x1 w.heap.size 1 (k : Int) HB1.out.size HB1.out).mono ?_; rintro e x2 ⟨g, h, rfl, hf, -, -⟩
      rw [show partsN 1 = 1 from rfl, show stayS (k : Int) = (1000 : Int) by unfold stayS; omega] at hf
      have HF := Lib.hid hf
      clear hf
      have HSB : Hid (1000 ≤ 1000) := by show _ ≤ _; omega
      have HBN : Hid (b ≠ 0) := by show _ ≠ _; omega
      go_wp2_with fail
      go_loopw [9] (fun t wr => ∃ i : Nat, i ≤ q ∧ t = .int .i64 i ∧ Hid (∃ c, FS w wr w.heap.size g h 1 c (1000 : Int))) (fun t _ => q - (intOf t).toNat)
      case atStart => exact ⟨0, Nat.zero_le _, rfl, _, HF.out⟩
      case round =>
        obtain ⟨i, hi, rfl, HJ⟩ := hrel
        obtain ⟨c, hf⟩ := HJ.out
        by_cases hlt : i < q
        · have HL := Lib.hid (lit_ra hf 0)
          have HF1 := Lib.hid (hf.alloc (.cells #[.int .u8 ((0 : Nat) : Int)] 5))
          clear hf HJ HF
          go_wp2_with fail
          refine (fs_step w _ _ g h 1 c _ [0] _ HF1.out HL.out).mono ?_; rintro e w2 ⟨k2, rfl, _, hf, _, _⟩
          have HF2 := Lib.hid hf
          clear hf HL HF1
          go_wp2_with fail
          go_roundw
          case rel => exact ⟨i + 1, by omega, by go_num, _, HF2.out⟩
          case measure => simp [intOf]; omega
        · have HL := Lib.hid (lit_ra hf b)
          have HF1 := Lib.hid (hf.alloc (.cells #[.int .u8 ((b : Nat) : Int)] 5))
          clear hf HJ HF
          go_wp2_with fail
          refine (fs_step w _ _ g h 1 c _ [b] _ HF1.out HL.out).mono ?_; rintro e w2 ⟨k2, rfl, _, hf, _, _⟩
          have HF2 : Hid (∃ c, c 0 = 0 ∧ FS w w2 w.heap.size g h 1 c (1000 : Int)) := ⟨_, step_other c HBN.out, hf⟩
          clear hf HL HF1
          go_wp2_with fail
          go_loopw [10] (fun t wr => ∃ j : Nat, 1 ≤ j ∧ j ≤ 1000 + 4 ∧ t = .int .i64 j ∧ Hid (∃ c, c 0 = min ((j : Int) - 1) 1001 ∧ FS w wr w.heap.size g h 1 c (1000 : Int))) (fun t _ => 1000 + 4 - (intOf t).toNat)
          case atStart => 
            obtain ⟨c, hc, hf⟩ := HF2.out
            exact ⟨1, by omega, by omega, rfl, c, by rw [hc]; rfl, hf⟩
          case round =>
            obtain ⟨j, hj1, hj, rfl, HJ⟩ := hrel
            obtain ⟨c, hc, hf⟩ := HJ.out
            by_cases hlt2 : j ≤ 1000 + 3
            · have hlt3 : (j : Int) ≤ (1000 : Int) + 3 := by omega
              have HL := Lib.hid (lit_ra hf 0)
              have HF1 := Lib.hid (hf.alloc (.cells #[.int .u8 ((0 : Nat) : Int)] 5))
              have HC2 : Hid (stepC c [0] 0 = min (((j + 1 : Nat) : Int) - 1) 1001) := by
                show _ = _
                rw [step_zero hc (by omega)]; omega
              clear hf HJ HF2 hc
              by_cases hs : 1000 < j
              · have HT : Hid (toldC (stepC c [0]) (1000 : Int) 0 = true) := by
                  show decide _ = _
                  rw [HC2.out]
                  exact decide_eq_true (by have := HSB.out; omega)
                have hs2 : (1000 : Int) < (j : Int) := by omega
                clear hs
                go_wp2_with fail
                refine (fs_step w _ _ g h 1 c _ [0] _ HF1.out HL.out).mono ?_; rintro e w3 ⟨k3, rfl, _, hf, hr, _⟩
                have HF3 := Lib.hid hf
                have c0 := (told_row hr HT.out).cell 0
                simp only [cvals, List.map_cons, List.map_nil, List.getElem?_toArray, List.getElem?_cons_zero] at c0
                clear hf HL HF1 hr
                go_wp2_with fail
                go_roundw
                case rel => exact ⟨j + 1, by omega, by omega, by go_num, _, HC2.out, HF3.out⟩
                case measure => simp [intOf]; omega
              · have HT : Hid (toldC (stepC c [0]) (1000 : Int) 0 = false) := by
                  show decide _ = _
                  rw [HC2.out]
                  exact decide_eq_false (by omega)
                have hs2 : ¬ (1000 : Int) < (j : Int) := by omega
                clear hs
                go_wp2_with fail
                refine (fs_step w _ _ g h 1 c _ [0] _ HF1.out HL.out).mono ?_; rintro e w3 ⟨k3, rfl, _, hf, hr, _⟩
                have HF3 := Lib.hid hf
                have c0 := (told_row hr HT.out).cell 0
                simp only [cvals, List.map_cons, List.map_nil, List.getElem?_toArray, List.getElem?_cons_zero] at c0
                clear hf HL HF1 hr
                go_wp2_with fail
                go_roundw
                case rel => exact ⟨j + 1, by omega, by omega, by go_num, _, HC2.out, HF3.out⟩
                case measure => simp [intOf]; omega
            · have hlt3 : ¬ (j : Int) ≤ (1000 : Int) + 3 := by omega
              have HF3 := Lib.hid hf
              have HCN := Lib.hid (count_any wr w.heap.size g h 1 c _ 0 hf.fi)
              have e0 : cntF 1 c 0 = c 0 := rfl
              rw [e0, hc] at HCN
              have hle : min ((j : Int) - 1) 1001 ≤ 1001 := by omega
              generalize min ((j : Int) - 1) 1001 = y at *
              clear hf HJ HF2 hc e0
              go_wp2_with fail
              refine HCN.out.mono ?_; rintro e w' ⟨rfl, rfl⟩
              go_wp2_with fail
              go_ret
              exact ⟨rfl, HF3.out.below⟩
  · have hkk2 : ¬ (1000 : Int) < (k : Int) := by omega
    by_cases hbb : b = 0
    · subst hbb
      go_enter Try.func4, Try.ntmps4
      go_wp2_with fail
      refine (stays_any w).mono ?_; rintro e x1 ⟨rfl, hb⟩
      have HB1 := Lib.hid hb
      clear hb
      go_wp2_with fail
      refine (fs_new w x1 w.heap.size 1 (k : Int) HB1.out.size HB1.out).mono ?_; rintro e x2 ⟨g, h, rfl, hf, -, -⟩
      rw [show partsN 1 = 1 from rfl, show stayS (k : Int) = (k : Int) by unfold stayS; omega] at hf
      have HF := Lib.hid hf
      clear hf
      have HSB : Hid (k ≤ 1000) := by show _ ≤ _; omega
      have HBN : Hid (1 ≠ 0) := by show _ ≠ _; omega
      go_wp2_with fail
      go_loopw [9] (fun t wr => ∃ i : Nat, i ≤ q ∧ t = .int .i64 i ∧ Hid (∃ c, FS w wr w.heap.size g h 1 c (k : Int))) (fun t _ => q - (intOf t).toNat)
      case atStart => exact ⟨0, Nat.zero_le _, rfl, _, HF.out⟩
      case round =>
        obtain ⟨i, hi, rfl, HJ⟩ := hrel
        obtain ⟨c, hf⟩ := HJ.out
        by_cases hlt : i < q
        · have HL := Lib.hid (lit_ra hf 0)
          have HF1 := Lib.hid (hf.alloc (.cells #[.int .u8 ((0 : Nat) : Int)] 5))
          clear hf HJ HF
          go_wp2_with fail
          refine (fs_step w _ _ g h 1 c _ [0] _ HF1.out HL.out).mono ?_; rintro e w2 ⟨k2, rfl, _, hf, _, _⟩
          have HF2 := Lib.hid hf
          clear hf HL HF1
          go_wp2_with fail
          go_roundw
          case rel => exact ⟨i + 1, by omega, by go_num, _, HF2.out⟩
          case measure => simp [intOf]; omega
        · have HL := Lib.hid (lit_ra hf 1)
          have HF1 := Lib.hid (hf.alloc (.cells #[.int .u8 ((1 : Nat) : Int)] 5))
          clear hf HJ HF
          go_wp2_with fail
          refine (fs_step w _ _ g h 1 c _ [1] _ HF1.out HL.out).mono ?_; rintro e w2 ⟨k2, rfl, _, hf, _, _⟩
          have HF2 : Hid (∃ c, c 0 = 0 ∧ FS w w2 w.heap.size g h 1 c (k : Int)) := ⟨_, step_other c HBN.out, hf⟩
          clear hf HL HF1
          go_wp2_with fail
          go_loopw [10] (fun t wr => ∃ j : Nat, 1 ≤ j ∧ j ≤ k + 4 ∧ t = .int .i64 j ∧ Hid (∃ c, c 0 = min ((j : Int) - 1) 1001 ∧ FS w wr w.heap.size g h 1 c (k : Int))) (fun t _ => k + 4 - (intOf t).toNat)
          case atStart => 
            obtain ⟨c, hc, hf⟩ := HF2.out
            exact ⟨1, by omega, by omega, rfl, c, by rw [hc]; rfl, hf⟩
          case round =>
            obtain ⟨j, hj1, hj, rfl, HJ⟩ := hrel
            obtain ⟨c, hc, hf⟩ := HJ.out
            by_cases hlt2 : j ≤ k + 3
            · have hlt3 : (j : Int) ≤ (k : Int) + 3 := by omega
              have HL := Lib.hid (lit_ra hf 0)
              have HF1 := Lib.hid (hf.alloc (.cells #[.int .u8 ((0 : Nat) : Int)] 5))
              have HC2 : Hid (stepC c [0] 0 = min (((j + 1 : Nat) : Int) - 1) 1001) := by
                show _ = _
                rw [step_zero hc (by omega)]; omega
              clear hf HJ HF2 hc
              by_cases hs : k < j
              · have HT : Hid (toldC (stepC c [0]) (k : Int) 0 = true) := by
                  show decide _ = _
                  rw [HC2.out]
                  exact decide_eq_true (by have := HSB.out; omega)
                have hs2 : (k : Int) < (j : Int) := by omega
                clear hs
                go_wp2_with fail
                refine (fs_step w _ _ g h 1 c _ [0] _ HF1.out HL.out).mono ?_; rintro e w3 ⟨k3, rfl, _, hf, hr, _⟩
                have HF3 := Lib.hid hf
                have c0 := (told_row hr HT.out).cell 0
                simp only [cvals, List.map_cons, List.map_nil, List.getElem?_toArray, List.getElem?_cons_zero] at c0
                clear hf HL HF1 hr
                go_wp2_with fail
                go_roundw
                case rel => exact ⟨j + 1, by omega, by omega, by go_num, _, HC2.out, HF3.out⟩
                case measure => simp [intOf]; omega
              · have HT : Hid (toldC (stepC c [0]) (k : Int) 0 = false) := by
                  show decide _ = _
                  rw [HC2.out]
                  exact decide_eq_false (by omega)
                have hs2 : ¬ (k : Int) < (j : Int) := by omega
                clear hs
                go_wp2_with fail
                refine (fs_step w _ _ g h 1 c _ [0] _ HF1.out HL.out).mono ?_; rintro e w3 ⟨k3, rfl, _, hf, hr, _⟩
                have HF3 := Lib.hid hf
                have c0 := (told_row hr HT.out).cell 0
                simp only [cvals, List.map_cons, List.map_nil, List.getElem?_toArray, List.getElem?_cons_zero] at c0
                clear hf HL HF1 hr
                go_wp2_with fail
                go_roundw
                case rel => exact ⟨j + 1, by omega, by omega, by go_num, _, HC2.out, HF3.out⟩
                case measure => simp [intOf]; omega
            · have hlt3 : ¬ (j : Int) ≤ (k : Int) + 3 := by omega
              have HF3 := Lib.hid hf
              have HCN := Lib.hid (count_any wr w.heap.size g h 1 c _ 0 hf.fi)
              have e0 : cntF 1 c 0 = c 0 := rfl
              rw [e0, hc] at HCN
              have hle : min ((j : Int) - 1) 1001 ≤ 1001 := by omega
              generalize min ((j : Int) - 1) 1001 = y at *
              clear hf HJ HF2 hc e0
              go_wp2_with fail
              refine HCN.out.mono ?_; rintro e w' ⟨rfl, rfl⟩
              go_wp2_with fail
              go_ret
              exact ⟨rfl, HF3.out.below⟩
    · have hbb2 : ((b : Int) == 0) = false := by rw [beq_eq_false_iff_ne]; omega
      go_enter Try.func4, Try.ntmps4
      go_wp2_with fail
      refine (stays_any w).mono ?_; rintro e x1 ⟨rfl, hb⟩
      have HB1 := Lib.hid hb
      clear hb
      go_wp2_with fail
      refine (fs_new w x1 w.heap.size 1 (k : Int) HB1.out.size HB1.out).mono ?_; rintro e x2 ⟨g, h, rfl, hf, -, -⟩
      rw [show partsN 1 = 1 from rfl, show stayS (k : Int) = (k : Int) by unfold stayS; omega] at hf
      have HF := Lib.hid hf
      clear hf
      have HSB : Hid (k ≤ 1000) := by show _ ≤ _; omega
      have HBN : Hid (b ≠ 0) := by show _ ≠ _; omega
      go_wp2_with fail
      go_loopw [9] (fun t wr => ∃ i : Nat, i ≤ q ∧ t = .int .i64 i ∧ Hid (∃ c, FS w wr w.heap.size g h 1 c (k : Int))) (fun t _ => q - (intOf t).toNat)
      case atStart => exact ⟨0, Nat.zero_le _, rfl, _, HF.out⟩
      case round =>
        obtain ⟨i, hi, rfl, HJ⟩ := hrel
        obtain ⟨c, hf⟩ := HJ.out
        by_cases hlt : i < q
        · have HL := Lib.hid (lit_ra hf 0)
          have HF1 := Lib.hid (hf.alloc (.cells #[.int .u8 ((0 : Nat) : Int)] 5))
          clear hf HJ HF
          go_wp2_with fail
          refine (fs_step w _ _ g h 1 c _ [0] _ HF1.out HL.out).mono ?_; rintro e w2 ⟨k2, rfl, _, hf, _, _⟩
          have HF2 := Lib.hid hf
          clear hf HL HF1
          go_wp2_with fail
          go_roundw
          case rel => exact ⟨i + 1, by omega, by go_num, _, HF2.out⟩
          case measure => simp [intOf]; omega
        · have HL := Lib.hid (lit_ra hf b)
          have HF1 := Lib.hid (hf.alloc (.cells #[.int .u8 ((b : Nat) : Int)] 5))
          clear hf HJ HF
          go_wp2_with fail
          refine (fs_step w _ _ g h 1 c _ [b] _ HF1.out HL.out).mono ?_; rintro e w2 ⟨k2, rfl, _, hf, _, _⟩
          have HF2 : Hid (∃ c, c 0 = 0 ∧ FS w w2 w.heap.size g h 1 c (k : Int)) := ⟨_, step_other c HBN.out, hf⟩
          clear hf HL HF1
          go_wp2_with fail
          go_loopw [10] (fun t wr => ∃ j : Nat, 1 ≤ j ∧ j ≤ k + 4 ∧ t = .int .i64 j ∧ Hid (∃ c, c 0 = min ((j : Int) - 1) 1001 ∧ FS w wr w.heap.size g h 1 c (k : Int))) (fun t _ => k + 4 - (intOf t).toNat)
          case atStart => 
            obtain ⟨c, hc, hf⟩ := HF2.out
            exact ⟨1, by omega, by omega, rfl, c, by rw [hc]; rfl, hf⟩
          case round =>
            obtain ⟨j, hj1, hj, rfl, HJ⟩ := hrel
            obtain ⟨c, hc, hf⟩ := HJ.out
            by_cases hlt2 : j ≤ k + 3
            · have hlt3 : (j : Int) ≤ (k : Int) + 3 := by omega
              have HL := Lib.hid (lit_ra hf 0)
              have HF1 := Lib.hid (hf.alloc (.cells #[.int .u8 ((0 : Nat) : Int)] 5))
              have HC2 : Hid (stepC c [0] 0 = min (((j + 1 : Nat) : Int) - 1) 1001) := by
                show _ = _
                rw [step_zero hc (by omega)]; omega
              clear hf HJ HF2 hc
              by_cases hs : k < j
              · have HT : Hid (toldC (stepC c [0]) (k : Int) 0 = true) := by
                  show decide _ = _
                  rw [HC2.out]
                  exact decide_eq_true (by have := HSB.out; omega)
                have hs2 : (k : Int) < (j : Int) := by omega
                clear hs
                go_wp2_with fail
                refine (fs_step w _ _ g h 1 c _ [0] _ HF1.out HL.out).mono ?_; rintro e w3 ⟨k3, rfl, _, hf, hr, _⟩
                have HF3 := Lib.hid hf
                have c0 := (told_row hr HT.out).cell 0
                simp only [cvals, List.map_cons, List.map_nil, List.getElem?_toArray, List.getElem?_cons_zero] at c0
                clear hf HL HF1 hr
                go_wp2_with fail
                go_roundw
                case rel => exact ⟨j + 1, by omega, by omega, by go_num, _, HC2.out, HF3.out⟩
                case measure => simp [intOf]; omega
              · have HT : Hid (toldC (stepC c [0]) (k : Int) 0 = false) := by
                  show decide _ = _
                  rw [HC2.out]
                  exact decide_eq_false (by omega)
                have hs2 : ¬ (k : Int) < (j : Int) := by omega
                clear hs
                go_wp2_with fail
                refine (fs_step w _ _ g h 1 c _ [0] _ HF1.out HL.out).mono ?_; rintro e w3 ⟨k3, rfl, _, hf, hr, _⟩
                have HF3 := Lib.hid hf
                have c0 := (told_row hr HT.out).cell 0
                simp only [cvals, List.map_cons, List.map_nil, List.getElem?_toArray, List.getElem?_cons_zero] at c0
                clear hf HL HF1 hr
                go_wp2_with fail
                go_roundw
                case rel => exact ⟨j + 1, by omega, by omega, by go_num, _, HC2.out, HF3.out⟩
                case measure => simp [intOf]; omega
            · have hlt3 : ¬ (j : Int) ≤ (k : Int) + 3 := by omega
              have HF3 := Lib.hid hf
              have HCN := Lib.hid (count_any wr w.heap.size g h 1 c _ 0 hf.fi)
              have e0 : cntF 1 c 0 = c 0 := rfl
              rw [e0, hc] at HCN
              have hle : min ((j : Int) - 1) 1001 ≤ 1001 := by omega
              generalize min ((j : Int) - 1) 1001 = y at *
              clear hf HJ HF2 hc e0
              go_wp2_with fail
              refine HCN.out.mono ?_; rintro e w' ⟨rfl, rfl⟩
              go_wp2_with fail
              go_ret
              exact ⟨rfl, HF3.out.below⟩

theorem lifted (os : Os) (started : os.Started) (H : Type) (enc : TypeId × Value → H) :
    ReturnsInHanded {} Try.checked os 4 .any (Rows.detectLongSpec.pre6 enc Try.prog Try.f4 Rows.detectLongRow.domain false) (Rows.detectLongSpec.post enc Try.prog Try.f4 false true false false) := by
  refine returnsInHanded_of_change (C := Try.checked) own started (by kernel_rfl) Try.func4
    (ChangeSpec.witness6 (enc := enc) (C := Try.checked) false ⟨#[], #[.int .u16 0, .int .u16 0, .int .u8 0], []⟩ 8 (by kernel_rfl) (by kernel_rfl) (by kernel_rfl) (by kernel_rfl)) ?_
  intro W base args ds gs before hval0 hW hcnd _
  have hval : ∀ (j : Nat) t v, Try.f4.params[j]? = some t → args[j]? = some v → Value.okWide Try.prog W .any base t v := hval0
  have hW' := hW
  obtain ⟨p, q, hA0, hV, rfl, hfz, hnd⟩ := hW
  have hA : DataW.TrodAll enc Try.prog W 0 (fun _ => true) true Try.f4.params.toList args.toList ds p := hA0
  rw [Try.params4] at hA hval
  obtain ⟨v0, vs0, d0, ds0, p0, q0, hargs, rfl, rfl, h0, r0⟩ := trodAll_cons hA
  obtain ⟨v1, vs1, d1, ds1, p1, q1, rfl, rfl, rfl, h1, r1⟩ := trodAll_cons r0
  obtain ⟨v2, vs2, d2, ds2, p2, q2, rfl, rfl, rfl, h2, r2⟩ := trodAll_cons r1
  obtain ⟨rfl, rfl, rfl⟩ := trodAll_nil r2
  obtain rfl : args = #[v0, v1, v2] := by cases args; simp_all
  obtain ⟨rfl, rfl⟩ := trodVars_none hV
  obtain ⟨a0, rfl, rfl, rfl, w0⟩ := open_int Try.underlying34 (hval 0 34 v0 rfl rfl) h0
  obtain ⟨a1, rfl, rfl, rfl, w1⟩ := open_int Try.underlying34 (hval 1 34 v1 rfl rfl) h1
  obtain ⟨a2, rfl, rfl, rfl, w2⟩ := open_int Try.underlying5 (hval 2 5 v2 rfl rfl) h2
  clear hA0 hval0
  refine (walk a0 a1 a2 W w0 w1 w2).mono fun e W' ⟨he, bel⟩ => ?_
  subst he
  exact ⟨_, rfl, _, _, _, [], _, [], hW', trodAll_mk1 (shut_bool Try.underlying4 _), (trodAll_cons_mk (shut_int Try.underlying34 w0) (trodAll_cons_mk (shut_int Try.underlying34 w1) (trodAll_cons_mk (shut_int Try.underlying5 w2) trodAll_mk0))), rfl, bel.frame _, fun h => by cases h⟩

theorem over : Rows.detectLongRow.holds Try.pinned (OpenSpec.ofChange Rows.detectLongSpec) :=
  OpenClaim.holds_of_wide 4 Try.f4 rfl rfl rfl rfl rfl rfl rfl ⟨rfl, rfl, rfl, rfl, rfl⟩ rfl rfl rfl rfl rfl (by kernel_rfl) Try.func4 (by kernel_rfl)
    (of_decide_eq_true (by kernel_rfl)) (by unfold Func.isWrapper; first | (rw [if_pos (by decide +kernel)]; kernel_rfl) | (rw [if_neg (by decide +kernel)]; exact ⟨rfl, rfl⟩))
    (fun os started H enc _ => lifted os started H enc)

theorem proved : Rows.DetectLongSaid := over
#print axioms proved
end Go.Proofs.Ytgophlafmobhfaa.detectLong
