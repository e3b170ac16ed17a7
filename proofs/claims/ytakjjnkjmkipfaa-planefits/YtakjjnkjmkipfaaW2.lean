/- Contracts, second part: the document's Fits; the examples that every law of the layer asks first; math.Float64bits. -/
import Derived.Test.YtakjjnkjmkipfaaW1
import Derived.Laws.Externs
namespace Go.Proofs.Ytakjjnkjmkipfaa
open Fl

theorem refFits_any (x1 y1 x2 y2 : Nat) (a b c d n : Int) (w : World) (h1 : Fl 0 x1 a) (h2 : Fl 0 y1 b) (h3 : Fl 0 x2 c) (h4 : Fl 0 y2 d)
    (b1 : (c - a).natAbs ≤ 4000000) (b2 : (d - b).natAbs ≤ 4000000) :
    Calls Try.prog 22 #[.complex .f64 x1 y1, .complex .f64 x2 y2, .int .i64 n] w fun e w' => e = .returned (.bool (fitsB (c - a) (d - b) n)) ∧ w = w' := by
  by_cases g1 : n < 1
  · have hf : fitsB (c - a) (d - b) n = false := by unfold fitsB; exact decide_eq_false (by omega)
    have Hf := Lib.hid hf; clear hf
    go_enter Try.func22, Try.ntmps22
    go_wp2
    go_ret
    exact ⟨ret_bool Hf.out.symm, rfl⟩
  · by_cases g2 : 10000 < n
    · have hf : fitsB (c - a) (d - b) n = false := by unfold fitsB; exact decide_eq_false (by omega)
      have Hf := Lib.hid hf; clear hf
      go_enter Try.func22, Try.ntmps22
      go_wp2
      go_ret
      exact ⟨ret_bool Hf.out.symm, rfl⟩
    · have hf : fitsB (c - a) (d - b) n = (decide (0 < (c - a) * (c - a) + (d - b) * (d - b)) && decide ((c - a) * (c - a) + (d - b) * (d - b) ≤ n * n)) := by
        unfold fitsB
        have s1 : 0 ≤ (c - a) * (c - a) := by
          rcases Int.le_total 0 (c - a) with q | q
          · exact Int.mul_nonneg q q
          · exact Int.mul_nonneg_of_nonpos_of_nonpos q q
        have s2 : 0 ≤ (d - b) * (d - b) := by
          rcases Int.le_total 0 (d - b) with q | q
          · exact Int.mul_nonneg q q
          · exact Int.mul_nonneg_of_nonpos_of_nonpos q q
        have z1 : (c - a) * (c - a) = 0 ↔ c - a = 0 := by rw [Int.mul_eq_zero]; omega
        have z2 : (d - b) * (d - b) = 0 ↔ d - b = 0 := by rw [Int.mul_eq_zero]; omega
        rw [← Bool.decide_and, decide_eq_decide]
        constructor
        · intro h; exact ⟨by omega, h.2.2.2⟩
        · intro h; exact ⟨by omega, by omega, by omega, h.2⟩
      have Hf := Lib.hid hf; clear hf
      obtain ⟨r, i, o1, f1, f2⟩ := csub_fl h3 h4 h1 h2 b1 b2
      have nn : (n * n).natAbs ≤ 10000 * 10000 := abs_mul_lt (by omega) (by omega)
      have p0 : 1 ≤ n := by omega
      have p1 : n ≤ 10000 := by omega
      go_enter Try.func22, Try.ntmps22
      go_wp2_with fail
      refine (refDot_any r i r i _ _ _ _ _ f1 f2 f1 f2 b1 b2 b1 b2).mono ?_
      rintro e w' ⟨rfl, rfl⟩
      clear o1
      by_cases c1 : 0 < (c - a) * (c - a) + (d - b) * (d - b)
      · have d1 : decide (0 < (c - a) * (c - a) + (d - b) * (d - b)) = true := decide_eq_true c1
        have Hd := Lib.hid d1
        go_wp2
        go_ret
        exact ⟨ret_bool (by rw [Hf.out, Hd.out]; simp), rfl⟩
      · have d1 : decide (0 < (c - a) * (c - a) + (d - b) * (d - b)) = false := decide_eq_false c1
        have Hd := Lib.hid d1
        go_wp2
        go_ret
        exact ⟨ret_bool (by rw [Hf.out, Hd.out]; simp), rfl⟩

theorem fl3 : Fl 0 4613937818241073152 3 := ⟨false, 3 * 2 ^ 51, 51, by decide, by decide⟩
theorem fl4 : Fl 0 4616189618054758400 4 := ⟨false, 4 * 2 ^ 50, 50, by decide, by decide⟩
theorem fl5 : Fl 0 4617315517961601024 5 := ⟨false, 5 * 2 ^ 50, 50, by decide, by decide⟩
theorem fl10 : Fl 0 4621819117588971520 10 := ⟨false, 10 * 2 ^ 49, 49, by decide, by decide⟩

theorem left_any (w : World) : Calls Try.prog 10 #[] w fun e w' => e = .returned (.bool true) ∧ w = w' := by
  have t1 : ((10 - 0 : Int) * (5 - 0) - (0 - 0) * (10 - 10)).sign = 1 := by decide
  have t2 : fitsB (3 - 0) (4 - 0) 5 = true := by decide
  have t3 : fitsB (3 - 0) (4 - 0) 4 = false := by decide
  have T1 := Lib.hid t1; have T2 := Lib.hid t2; have T3 := Lib.hid t3
  clear t1 t2 t3
  go_enter Try.func10, Try.ntmps10
  go_wp2_with fail
  refine (turn_any _ _ _ _ _ _ 0 0 10 0 10 5 _ fl_zero fl_zero fl10 fl_zero fl10 fl5 (by decide) (by decide) (by decide) (by decide)).mono ?_
  rintro e w' ⟨rfl, rfl⟩
  rw [T1.out]
  go_wp2_with fail
  refine (fits_any _ _ _ _ 0 0 3 4 5 _ fl_zero fl_zero fl3 fl4 (by decide) (by decide)).mono ?_
  rintro e w' ⟨rfl, rfl⟩
  rw [T2.out]
  go_wp2_with fail
  refine (fits_any _ _ _ _ 0 0 3 4 4 _ fl_zero fl_zero fl3 fl4 (by decide) (by decide)).mono ?_
  rintro e w' ⟨rfl, rfl⟩
  rw [T3.out]
  go_wp2
  go_ret
  exact ⟨rfl, rfl⟩

theorem bits_run (x : Nat) (w : World) : (callFunc 18 #[.float .f64 x]).run Try.prog w = .ok (.value (.int .u64 x)) w :=
  run_callFunc_extern (e := Extern.MathFloatBits.float64bits) Try.func18 (by kernel_rfl) (by kernel_rfl) (by kernel_rfl) (by kernel_rfl) #[.float .f64 x] w

theorem frombits_run (n : Int) (w : World) : (callFunc 8 #[.int .u64 n]).run Try.prog w = .ok (.value (.float .f64 n.toNat)) w :=
  run_callFunc_extern (e := Extern.MathFloatBits.float64frombits) Try.func8 (by kernel_rfl) (by kernel_rfl) (by kernel_rfl) (by kernel_rfl) #[.int .u64 n] w

end Go.Proofs.Ytakjjnkjmkipfaa
