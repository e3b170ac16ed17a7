/- Contracts of package plane's and the document's small functions on places: what each returns at words that stand for whole numbers within the bounds named. Contracts, second part: the document's Fits; the examples that every law of the layer asks first; math.Float64bits. Plain facts on IEEE words, second part: any finite word counted in units of the least place; cut towards nought; which words are whole numbers within a million. No condition beside those named. Contracts, third part: what a part of a place is, as the program asks it and as the document does: one answer for every word. -/
import Derived.Test.YtagkgejdammflaaGreatChecked
import Derived.Test.YtagkgejdammflaaGreatBase
import Derived.WalkKit
import Derived.WalkLawsBesides
import Derived.Lib.Hide
import Derived.KernelRfl
import Derived.IntWalk
import Derived.Laws.Externs
import Derived.Test.YtagkgejdammflaaGreatFloat
namespace Go.Proofs.YtagkgejdammflaaGreat
open Fl
set_option maxRecDepth 100000

/-- It returns a float that stands for 'n', the nought without a sign; memory is as it was. -/
def RetFl (n : Int) (w : World) (e : Ending) (w' : World) : Prop := ∃ r, e = .returned (.float .f64 r) ∧ Fl 0 r n ∧ (n = 0 → r = 0) ∧ w = w'

theorem unsigned_any (x : Nat) (n : Int) (w : World) (h : Fl 0 x n) : Calls Tryz.prog 108 #[.float .f64 x] w (RetFl n w) := by
  have ho := fl_order h fl_zero
  by_cases z : n = 0
  · have hb : (FloatKind.f64.format.order x 0 == some .eq) = true := by rw [ho, z]; rfl
    clear ho
    go_enter Tryz.func108, Tryz.ntmps108
    go_wp2
    go_ret
    exact ⟨0, rfl, z ▸ fl_zero, fun _ => rfl, rfl⟩
  · have hb : (FloatKind.f64.format.order x 0 == some .eq) = false := by
      rw [ho]
      have : compare n 0 ≠ .eq := fun c => z (Std.compare_eq_iff_eq.1 c)
      simp [this]
    clear ho
    go_enter Tryz.func108, Tryz.ntmps108
    go_wp2
    go_ret
    exact ⟨x, rfl, h, fun c => absurd c z, rfl⟩

theorem abs_mul_lt {a b : Int} {A B : Nat} (ha : a.natAbs ≤ A) (hb : b.natAbs ≤ B) : (a * b).natAbs ≤ A * B := by
  rw [Int.natAbs_mul]; exact Nat.mul_le_mul ha hb

theorem dot_any (x1 y1 x2 y2 : Nat) (a b c d : Int) (w : World) (h1 : Fl 0 x1 a) (h2 : Fl 0 y1 b) (h3 : Fl 0 x2 c) (h4 : Fl 0 y2 d)
    (ba : a.natAbs ≤ 4000000) (bb : b.natAbs ≤ 4000000) (bc : c.natAbs ≤ 4000000) (bd : d.natAbs ≤ 4000000) :
    Calls Tryz.prog 87 #[.complex .f64 x1 y1, .complex .f64 x2 y2] w (RetFl (a * c + b * d) w) := by
  have m1 := abs_mul_lt ba bc
  have m2 := abs_mul_lt bb bd
  obtain ⟨p, hp, fp⟩ := fl_mul h1 h3 (by omega)
  obtain ⟨q, hq, fq⟩ := fl_mul h2 h4 (by omega)
  obtain ⟨r, hr, fr⟩ := fl_add (by omega) fp fq (by omega)
  have o1 : ∀ t w, (binOp .mul t (.float .f64 x1) (.float .f64 x2)).run Tryz.prog w = .ok (.float .f64 p) w := fun t w => run_float_arith w .mul t .f64 x1 x2 p hp
  have o2 : ∀ t w, (binOp .mul t (.float .f64 y1) (.float .f64 y2)).run Tryz.prog w = .ok (.float .f64 q) w := fun t w => run_float_arith w .mul t .f64 y1 y2 q hq
  have o3 : ∀ t w, (binOp .add t (.float .f64 p) (.float .f64 q)).run Tryz.prog w = .ok (.float .f64 r) w := fun t w => run_float_arith w .add t .f64 p q r hr
  clear hp hq hr m1 m2
  go_enter Tryz.func87, Tryz.ntmps87
  go_wp2_with ((go_at_call 108; refine (unsigned_any r _ _ fr).mono ?_; rintro e w' ⟨r', rfl, f', z', rfl⟩))
  go_ret
  exact ⟨r', rfl, f', z', rfl⟩

theorem square_any (x y : Nat) (a b : Int) (w : World) (h1 : Fl 0 x a) (h2 : Fl 0 y b) (ba : a.natAbs ≤ 4000000) (bb : b.natAbs ≤ 4000000) :
    Calls Tryz.prog 75 #[.complex .f64 x y] w (RetFl (a * a + b * b) w) := by
  go_enter Tryz.func75, Tryz.ntmps75
  go_wp2_with (go_at_call 87; refine (dot_any x y x y a b a b _ h1 h2 h1 h2 ba bb ba bb).mono ?_; rintro e w' ⟨r', rfl, f', z', rfl⟩)
  go_ret
  exact ⟨r', rfl, f', z', rfl⟩

theorem at_any (x y : Nat) (a b : Int) (w : World) (h1 : Fl 0 x a) (h2 : Fl 0 y b) (ba : a.natAbs ≤ 4000000) (bb : b.natAbs ≤ 4000000) :
    Calls Tryz.prog 24 #[.complex .f64 x y] w fun e w' => e = .returned (.tuple #[.int .i64 a, .int .i64 b]) ∧ w = w' := by
  have t1 := fl_toInt h1 (by omega) (by omega)
  have t2 := fl_toInt h2 (by omega) (by omega)
  have c1 : ∀ w, (convert 37 2 (.float .f64 x)).run Tryz.prog w = .ok (.int .i64 a) w := fun w => run_convert_float_int w 37 2 .f64 .i64 x a (by rw [Tryz.underlying37]; rfl) Tryz.underlying2 t1
  have c2 : ∀ w, (convert 37 2 (.float .f64 y)).run Tryz.prog w = .ok (.int .i64 b) w := fun w => run_convert_float_int w 37 2 .f64 .i64 y b (by rw [Tryz.underlying37]; rfl) Tryz.underlying2 t2
  clear t1 t2
  go_enter Tryz.func24, Tryz.ntmps24
  go_wp2
  go_ret2
  exact ⟨rfl, rfl⟩

theorem i64_of_abs {x : Int} {B : Nat} (h : x.natAbs ≤ B) (hB : B ≤ 9223372036854775807) : IntKind.i64.wrap x = x := IntWalk.i64_in _ (by omega)

theorem refDot_any (x1 y1 x2 y2 : Nat) (a b c d : Int) (w : World) (h1 : Fl 0 x1 a) (h2 : Fl 0 y1 b) (h3 : Fl 0 x2 c) (h4 : Fl 0 y2 d)
    (ba : a.natAbs ≤ 4000000) (bb : b.natAbs ≤ 4000000) (bc : c.natAbs ≤ 4000000) (bd : d.natAbs ≤ 4000000) :
    Calls Tryz.prog 18 #[.complex .f64 x1 y1, .complex .f64 x2 y2] w fun e w' => e = .returned (.int .i64 (a * c + b * d)) ∧ w = w' := by
  have m1 := abs_mul_lt ba bc
  have m2 := abs_mul_lt bb bd
  go_enter Tryz.func18, Tryz.ntmps18
  go_wp2_with fail
  refine (at_any x1 y1 a b _ h1 h2 ba bb).mono ?_; rintro e w' ⟨rfl, rfl⟩
  go_wp2_with fail
  refine (at_any x2 y2 c d _ h3 h4 bc bd).mono ?_; rintro e w' ⟨rfl, rfl⟩
  go_wp2_with fail
  go_ret
  exact ⟨rfl, rfl⟩

/-- A part of a place. -/
def part (a : Int) : Int := a.tmod 1000001

theorem part_le (a : Int) : (part a).natAbs ≤ 1000000 := by
  unfold part
  have h := Int.natAbs_tmod a 1000001
  rw [h]
  have : a.natAbs % (1000001 : Int).natAbs < 1000001 := Nat.mod_lt _ (by decide)
  omega

/-- Its word. -/
def pf (a : Int) : Nat := floatOfInt .f64 (part a)

theorem pf_fl (a : Int) : Fl 0 (pf a) (part a) := fl_ofInt _ (by have := part_le a; omega)

theorem csub_fl {x1 y1 x2 y2 : Nat} {a b c d : Int} (h1 : Fl 0 x1 a) (h2 : Fl 0 y1 b) (h3 : Fl 0 x2 c) (h4 : Fl 0 y2 d)
    (ba : (a - c).natAbs ≤ 4000000) (bb : (b - d).natAbs ≤ 4000000) :
    ∃ r i, (∀ t w, (binOp .sub t (.complex .f64 x1 y1) (.complex .f64 x2 y2)).run Tryz.prog w = .ok (.complex .f64 r i) w) ∧ Fl 0 r (a - c) ∧ Fl 0 i (b - d) := by
  obtain ⟨r, hr, fr⟩ := fl_sub (by omega) h1 h3 (by omega)
  obtain ⟨i, hi, fi⟩ := fl_sub (by omega) h2 h4 (by omega)
  exact ⟨r, i, fun t w => run_complex_sum w .sub (Or.inr rfl) t .f64 x1 y1 x2 y2 r i (by unfold cSumBits; rw [hr, hi]; rfl), fr, fi⟩

theorem ord_fl {j x y : Nat} {a b : Int} (o : Ordering) (h : Fl j x a) (h' : Fl j y b) : (FloatKind.f64.format.order x y == some o) = (compare a b == o) := by
  rw [fl_order h h']; rfl

theorem gt_fact {x : Nat} {n : Int} (h : Fl 0 x n) : (FloatKind.f64.format.order x 0 == some .gt) = decide (0 < n) := by
  rw [ord_fl _ h fl_zero]
  by_cases g : 0 < n
  · rw [Std.compare_eq_gt.2 g]; simp [g]
  · have : compare n 0 ≠ .gt := fun c => g (Std.compare_eq_gt.1 c)
    simp [g, this]

theorem lt_fact {x : Nat} {n : Int} (h : Fl 0 x n) : (FloatKind.f64.format.order x 0 == some .lt) = decide (n < 0) := by
  rw [ord_fl _ h fl_zero]
  by_cases g : n < 0
  · rw [Std.compare_eq_lt.2 g]; simp [g]
  · have : compare n 0 ≠ .lt := fun c => g (Std.compare_eq_lt.1 c)
    simp [g, this]

theorem ahead_any (x1 y1 x2 y2 x3 y3 : Nat) (a b c d p q : Int) (w : World) (h1 : Fl 0 x1 a) (h2 : Fl 0 y1 b) (h3 : Fl 0 x2 c) (h4 : Fl 0 y2 d) (h5 : Fl 0 x3 p) (h6 : Fl 0 y3 q)
    (b1 : (c - a).natAbs ≤ 4000000) (b2 : (d - b).natAbs ≤ 4000000) (b3 : (p - c).natAbs ≤ 4000000) (b4 : (q - d).natAbs ≤ 4000000) :
    Calls Tryz.prog 81 #[.complex .f64 x1 y1, .complex .f64 x2 y2, .complex .f64 x3 y3] w fun e w' => e = .returned (.bool (decide (0 < (c - a) * (p - c) + (d - b) * (q - d)))) ∧ w = w' := by
  obtain ⟨r, i, o1, f1, f2⟩ := csub_fl h3 h4 h1 h2 b1 b2
  obtain ⟨r', i', o2, f3, f4⟩ := csub_fl h5 h6 h3 h4 b3 b4
  generalize hn : (c - a) * (p - c) + (d - b) * (q - d) = n
  have Hn := Lib.hid hn; clear hn
  go_enter Tryz.func81, Tryz.ntmps81
  go_wp2_with fail
  refine (dot_any r i r' i' _ _ _ _ _ f1 f2 f3 f4 b1 b2 b3 b4).mono ?_
  rintro e w' ⟨u, rfl, fu, zu, rfl⟩
  clear o1 o2 zu
  rw [Hn.out] at fu; clear Hn
  have hg := gt_fact fu
  go_wp2
  go_ret
  exact ⟨rfl, rfl⟩

theorem eq_fact {j x y : Nat} {a b : Int} (h : Fl j x a) (h' : Fl j y b) : (FloatKind.f64.format.order x y == some .eq) = decide (a = b) := by
  rw [ord_fl _ h h']
  by_cases g : a = b
  · subst g; simp
  · have : compare a b ≠ .eq := fun c => g (Std.compare_eq_iff_eq.1 c)
    simp [g, this]

theorem ge_fact {j x y : Nat} {a b : Int} (h : Fl j x a) (h' : Fl j y b) : (FloatKind.f64.format.order x y == some .gt || FloatKind.f64.format.order x y == some .eq) = decide (b ≤ a) := by
  rw [ord_fl _ h h', ord_fl _ h h']
  rcases Int.lt_trichotomy a b with g | g | g
  · rw [Std.compare_eq_lt.2 g, decide_eq_false (by omega)]; rfl
  · subst g; simp
  · rw [Std.compare_eq_gt.2 g, decide_eq_true (by omega)]; rfl

theorem le_fact {j x y : Nat} {a b : Int} (h : Fl j x a) (h' : Fl j y b) : (FloatKind.f64.format.order x y == some .lt || FloatKind.f64.format.order x y == some .eq) = decide (a ≤ b) := by
  rw [ord_fl _ h h', ord_fl _ h h']
  rcases Int.lt_trichotomy a b with g | g | g
  · rw [Std.compare_eq_lt.2 g, decide_eq_true (by omega)]; rfl
  · subst g; simp
  · rw [Std.compare_eq_gt.2 g, decide_eq_false (by omega)]; rfl

/-- The document's 'may a section between two places be so long'. -/
def fitsB (p q n : Int) : Bool := decide (1 ≤ n ∧ n ≤ 10000 ∧ (p ≠ 0 ∨ q ≠ 0) ∧ p * p + q * q ≤ n * n)


theorem fits_any (x1 y1 x2 y2 : Nat) (a b c d n : Int) (w : World) (h1 : Fl 0 x1 a) (h2 : Fl 0 y1 b) (h3 : Fl 0 x2 c) (h4 : Fl 0 y2 d)
    (b1 : (c - a).natAbs ≤ 4000000) (b2 : (d - b).natAbs ≤ 4000000) :
    Calls Tryz.prog 59 #[.complex .f64 x1 y1, .complex .f64 x2 y2, .int .i64 n] w fun e w' => e = .returned (.bool (fitsB (c - a) (d - b) n)) ∧ w = w' := by
  have e1 := eq_fact h1 h3
  have e2 := eq_fact h2 h4
  by_cases g : a = c ∧ b = d
  · rw [decide_eq_true g.1] at e1
    rw [decide_eq_true g.2] at e2
    have hf : fitsB (c - a) (d - b) n = false := by unfold fitsB; exact decide_eq_false (by omega)
    have Hf := Lib.hid hf; clear hf g
    go_enter Tryz.func59, Tryz.ntmps59
    go_wp2
    go_ret
    exact ⟨ret_bool Hf.out.symm, rfl⟩
  · have e12 : (FloatKind.f64.format.order x1 x2 == some .eq && FloatKind.f64.format.order y1 y2 == some .eq) = false := by
      rw [e1, e2]; simp; omega
    clear e1 e2
    by_cases g1 : n < 1
    · have hf : fitsB (c - a) (d - b) n = false := by unfold fitsB; exact decide_eq_false (by omega)
      have Hf := Lib.hid hf; clear hf g
      go_enter Tryz.func59, Tryz.ntmps59
      go_wp2
      go_ret
      exact ⟨ret_bool Hf.out.symm, rfl⟩
    · by_cases g2 : 10000 < n
      · have hf : fitsB (c - a) (d - b) n = false := by unfold fitsB; exact decide_eq_false (by omega)
        have Hf := Lib.hid hf; clear hf g
        go_enter Tryz.func59, Tryz.ntmps59
        go_wp2
        go_ret
        exact ⟨ret_bool Hf.out.symm, rfl⟩
      · have hf : fitsB (c - a) (d - b) n = decide ((c - a) * (c - a) + (d - b) * (d - b) ≤ n * n) := by
          unfold fitsB
          rw [decide_eq_decide]
          constructor
          · intro h; exact h.2.2.2
          · intro h; exact ⟨by omega, by omega, by omega, h⟩
        have Hf := Lib.hid hf; clear hf g
        obtain ⟨r, i, o1, f1, f2⟩ := csub_fl h3 h4 h1 h2 b1 b2
        have nn : (n * n).natAbs ≤ 10000 * 10000 := abs_mul_lt (by omega) (by omega)
        have fn := fl_ofInt (n * n) (by omega)
        have p0 : 1 ≤ n := by omega
        have p1 : n ≤ 10000 := by omega
        go_enter Tryz.func59, Tryz.ntmps59
        go_wp2_with fail
        refine (square_any r i _ _ _ f1 f2 b1 b2).mono ?_
        rintro e w' ⟨u, rfl, fu, zu, rfl⟩
        clear o1 zu
        have hg := ge_fact fn fu
        have HG := Lib.hid hg
        go_wp2
        go_ret
        exact ⟨ret_bool (by rw [Hf.out]), rfl⟩

end Go.Proofs.YtagkgejdammflaaGreat

namespace Go.Proofs.YtagkgejdammflaaGreat
open Fl
set_option maxRecDepth 100000

theorem refFits_any (x1 y1 x2 y2 : Nat) (a b c d n : Int) (w : World) (h1 : Fl 0 x1 a) (h2 : Fl 0 y1 b) (h3 : Fl 0 x2 c) (h4 : Fl 0 y2 d)
    (b1 : (c - a).natAbs ≤ 4000000) (b2 : (d - b).natAbs ≤ 4000000) :
    Calls Tryz.prog 53 #[.complex .f64 x1 y1, .complex .f64 x2 y2, .int .i64 n] w fun e w' => e = .returned (.bool (fitsB (c - a) (d - b) n)) ∧ w = w' := by
  by_cases g1 : n < 1
  · have hf : fitsB (c - a) (d - b) n = false := by unfold fitsB; exact decide_eq_false (by omega)
    have Hf := Lib.hid hf; clear hf
    go_enter Tryz.func53, Tryz.ntmps53
    go_wp2
    go_ret
    exact ⟨ret_bool Hf.out.symm, rfl⟩
  · by_cases g2 : 10000 < n
    · have hf : fitsB (c - a) (d - b) n = false := by unfold fitsB; exact decide_eq_false (by omega)
      have Hf := Lib.hid hf; clear hf
      go_enter Tryz.func53, Tryz.ntmps53
      go_wp2
      go_ret
      exact ⟨ret_bool Hf.out.symm, rfl⟩
    · have hf : fitsB (c - a) (d - b) n = (decide (0 < (c - a) * (c - a) + (d - b) * (d - b)) && decide ((c - a) * (c - a) + (d - b) * (d - b) ≤ n * n)) := by
        unfold fitsB
        have s1 : 0 ≤ (c - a) * (c - a) := by
          rcases Int.le_total 0 (c - a) with q | q
          · exact Int.mul_nonneg q q
          · exact Int.mul_nonneg_of_nonpos_of_nonpos q q
        have s2 : 0 ≤ (d - b) * (d - b) := by
          rcases Int.le_total 0 (d - b) with q | q
          · exact Int.mul_nonneg q q
          · exact Int.mul_nonneg_of_nonpos_of_nonpos q q
        have z1 : (c - a) * (c - a) = 0 ↔ c - a = 0 := by rw [Int.mul_eq_zero]; omega
        have z2 : (d - b) * (d - b) = 0 ↔ d - b = 0 := by rw [Int.mul_eq_zero]; omega
        rw [← Bool.decide_and, decide_eq_decide]
        constructor
        · intro h; exact ⟨by omega, h.2.2.2⟩
        · intro h; exact ⟨by omega, by omega, by omega, h.2⟩
      have Hf := Lib.hid hf; clear hf
      obtain ⟨r, i, o1, f1, f2⟩ := csub_fl h3 h4 h1 h2 b1 b2
      have nn : (n * n).natAbs ≤ 10000 * 10000 := abs_mul_lt (by omega) (by omega)
      have p0 : 1 ≤ n := by omega
      have p1 : n ≤ 10000 := by omega
      go_enter Tryz.func53, Tryz.ntmps53
      go_wp2_with fail
      refine (refDot_any r i r i _ _ _ _ _ f1 f2 f1 f2 b1 b2 b1 b2).mono ?_
      rintro e w' ⟨rfl, rfl⟩
      clear o1
      by_cases c1 : 0 < (c - a) * (c - a) + (d - b) * (d - b)
      · have d1 : decide (0 < (c - a) * (c - a) + (d - b) * (d - b)) = true := decide_eq_true c1
        have Hd := Lib.hid d1
        go_wp2
        go_ret
        exact ⟨ret_bool (by rw [Hf.out, Hd.out]; simp), rfl⟩
      · have d1 : decide (0 < (c - a) * (c - a) + (d - b) * (d - b)) = false := decide_eq_false c1
        have Hd := Lib.hid d1
        go_wp2
        go_ret
        exact ⟨ret_bool (by rw [Hf.out, Hd.out]; simp), rfl⟩

theorem fl3 : Fl 0 4613937818241073152 3 := ⟨false, 3 * 2 ^ 51, 51, by decide, by decide⟩
theorem fl4 : Fl 0 4616189618054758400 4 := ⟨false, 4 * 2 ^ 50, 50, by decide, by decide⟩
theorem fl5 : Fl 0 4617315517961601024 5 := ⟨false, 5 * 2 ^ 50, 50, by decide, by decide⟩
theorem fl10 : Fl 0 4621819117588971520 10 := ⟨false, 10 * 2 ^ 49, 49, by decide, by decide⟩

theorem bits_run (x : Nat) (w : World) : (callFunc 120 #[.float .f64 x]).run Tryz.prog w = .ok (.value (.int .u64 x)) w :=
  run_callFunc_extern (e := Extern.MathFloatBits.float64bits) Tryz.func120 (by kernel_rfl) (by kernel_rfl) (by kernel_rfl) (by kernel_rfl) #[.float .f64 x] w

theorem frombits_run (n : Int) (w : World) : (callFunc 121 #[.int .u64 n]).run Tryz.prog w = .ok (.value (.float .f64 n.toNat)) w :=
  run_callFunc_extern (e := Extern.MathFloatBits.float64frombits) Tryz.func121 (by kernel_rfl) (by kernel_rfl) (by kernel_rfl) (by kernel_rfl) #[.int .u64 n] w

end Go.Proofs.YtagkgejdammflaaGreat

namespace Go.Proofs.YtagkgejdammflaaGreat.Fl
open Ieee
set_option maxRecDepth 100000

def least : Nat := 1074

/-- A number in units of the least place. -/
def unD (s : Bool) (m : Nat) (e : Int) : Int := sg s m * 2 ^ (e + (least : Int)).toNat

theorem order_un (s t : Bool) (m n : Nat) (e f : Int) (he : -(least : Int) ≤ e) (hf : -(least : Int) ≤ f) :
    (Datum.number s m e).order (.number t n f) = some (compare (unD s m e) (unD t n f)) := by
  simp only [Datum.order, signed_eq]
  rw [compare_of (X := sg s m * 2 ^ (e - min e f).toNat) (Y := sg t n * 2 ^ (f - min e f).toNat) (a := unD s m e) (b := unD t n f) (c := 2 ^ (min e f + (least : Int)).toNat) (d := 1) (two_pow_pos _) (by decide)]
  · unfold unD; rw [Int.mul_assoc, ← Int.pow_add, Int.mul_one, show (e - min e f).toNat + (min e f + (least : Int)).toNat = (e + (least : Int)).toNat from by omega]
  · unfold unD; rw [Int.mul_assoc, ← Int.pow_add, Int.mul_one, show (f - min e f).toNat + (min e f + (least : Int)).toNat = (f + (least : Int)).toNat from by omega]

theorem read_place (x : Nat) (s : Bool) (m : Nat) (e : Int) (h : double.read x = .number s m e) : -(least : Int) ≤ e := by
  have hl : double.leastPlace = -1074 := by decide
  unfold Format.read at h
  simp only [hl] at h
  unfold least
  split at h
  · cases h; omega
  · split at h
    · cases h; omega
    · split at h <;> cases h

/-- The whole part. -/
def whole (s : Bool) (m : Nat) (e : Int) : Nat := Toward.cut .zero s (m <<< e.toNat) (-e).toNat

theorem cut_zero (s : Bool) (x drop : Nat) : Toward.cut .zero s x drop = x / 2 ^ drop := by
  unfold Toward.cut
  simp only [Nat.one_shiftLeft, Bool.toNat_false, Nat.add_zero]
  by_cases c : drop ≤ x.log2 + 2
  · rw [Nat.min_eq_left c]
  · rw [Nat.min_eq_right (by omega)]
    have a : x < 2 ^ (x.log2 + 2) := Nat.lt_of_lt_of_le Nat.lt_log2_self (Nat.pow_le_pow_right (by decide) (by omega))
    have b : x < 2 ^ drop := Nat.lt_of_lt_of_le a (Nat.pow_le_pow_right (by decide) (by omega))
    rw [Nat.div_eq_of_lt a, Nat.div_eq_of_lt b]

theorem whole_le (s : Bool) (m : Nat) (e : Int) (he : -(least : Int) ≤ e) : whole s m e * 2 ^ least ≤ (unD s m e).natAbs := by
  unfold whole unD
  rw [cut_zero, Int.natAbs_mul, sg_natAbs, natAbs_two_pow, Nat.shiftLeft_eq]
  have a : m * 2 ^ e.toNat / 2 ^ (-e).toNat * 2 ^ (-e).toNat ≤ m * 2 ^ e.toNat := Nat.div_mul_le_self _ _
  have hl : least = (-e).toNat + (least - (-e).toNat) := by omega
  calc m * 2 ^ e.toNat / 2 ^ (-e).toNat * 2 ^ least
      = m * 2 ^ e.toNat / 2 ^ (-e).toNat * 2 ^ (-e).toNat * 2 ^ (least - (-e).toNat) := by rw [Nat.mul_assoc, ← Nat.pow_add, ← hl]
    _ ≤ m * 2 ^ e.toNat * 2 ^ (least - (-e).toNat) := Nat.mul_le_mul_right _ a
    _ = m * 2 ^ (e + (least : Int)).toNat := by rw [Nat.mul_assoc, ← Nat.pow_add, show e.toNat + (least - (-e).toNat) = (e + (least : Int)).toNat from by omega]

theorem fl_un {x : Nat} {n : Int} (h : Fl 0 x n) : ∃ s m e, double.read x = .number s m e ∧ -(least : Int) ≤ e ∧ unD s m e = n * 2 ^ least := by
  obtain ⟨s, m, k, e, v⟩ := h
  have hp := read_place x s m _ e
  refine ⟨s, m, _, e, hp, ?_⟩
  unfold unD
  rw [Int.pow_zero, Int.mul_one] at v
  rw [v, Int.mul_assoc, ← Int.pow_add, show k + (-(k : Int) + (least : Int)).toNat = least from by omega]

/-- What the cut towards nought of a word is, as a word. -/
def truncW (x : Nat) : Nat := double.write ((double.read x).integral .zero)

theorem trunc_fl {x : Nat} {s : Bool} {m : Nat} {e : Int} (h : double.read x = .number s m e) (hb : whole s m e < 2 ^ 53) : Fl 0 (truncW x) (sg s (whole s m e)) := by
  unfold truncW
  rw [h]
  exact nearest_val s (whole s m e) 0 0 _ (by omega) (by rw [sg_natAbs]; exact hb) (by simp)

theorem toInt_whole {x : Nat} {s : Bool} {m : Nat} {e : Int} (h : double.read x = .number s m e) (hb : whole s m e < 2 ^ 53) : floatToIntVal .f64 x .i64 = some (sg s (whole s m e)) := by
  have ht : (FloatKind.f64.decode x).toInt .zero = some (sg s (whole s m e)) := by
    show (double.read x).toInt .zero = _
    rw [h]
    simp only [Datum.toInt, Datum.integral]
    rw [signed_eq, Int.pow_zero, Int.mul_one]; rfl
  unfold floatToIntVal
  rw [ht]
  have i1 : IntKind.i64.min = -9223372036854775808 := by decide
  have i2 : IntKind.i64.max = 9223372036854775807 := by decide
  simp only [i1, i2]
  have := sg_natAbs s (whole s m e)
  rw [if_pos (by omega)]

theorem million : Fl 0 4696837146684686336 1000000 := ⟨false, 1000000 * 2 ^ 33, 33, by decide, by decide⟩
theorem minusMillion : Fl 0 13920209183539462144 (-1000000) := ⟨true, 1000000 * 2 ^ 33, 33, by decide, by decide⟩
theorem pastMillion : Fl 0 4696837155274620928 1000001 := ⟨false, 1000001 * 2 ^ 33, 33, by decide, by decide⟩
theorem half : Fl 1 4602678819172646912 1 := ⟨false, 2 ^ 52, 53, by decide, by decide⟩

def loB (x : Nat) : Bool := FloatKind.f64.format.order x 13920209183539462144 == some .gt || FloatKind.f64.format.order x 13920209183539462144 == some .eq
def hiB (x : Nat) : Bool := FloatKind.f64.format.order x 4696837146684686336 == some .lt || FloatKind.f64.format.order x 4696837146684686336 == some .eq
/-- Is it a part of a place? -/
def metB (x : Nat) : Bool := loB x && hiB x && (FloatKind.f64.format.order x (truncW x) == some .eq)

/-- Within the bounds a word is a number whose whole part is at most a million. -/
theorem inside {x : Nat} (h1 : loB x = true) (h2 : hiB x = true) : ∃ s m e, double.read x = .number s m e ∧ -(least : Int) ≤ e ∧ whole s m e ≤ 1000000 := by
  unfold loB at h1
  unfold hiB at h2
  obtain ⟨sM, mM, eM, rM, pM, uM⟩ := fl_un million
  obtain ⟨sN, mN, eN, rN, pN, uN⟩ := fl_un minusMillion
  have f1 : FloatKind.f64.format.order x 13920209183539462144 = (double.read x).order (.number sN mN eN) := by rw [← rN]; rfl
  have f2 : FloatKind.f64.format.order x 4696837146684686336 = (double.read x).order (.number sM mM eM) := by rw [← rM]; rfl
  rw [f1] at h1
  rw [f2] at h2
  cases hr : double.read x with
  | nan s t => rw [hr] at h1; simp [Datum.order] at h1
  | infinity s =>
    rw [hr] at h1 h2
    cases s
    · simp [Datum.order] at h2
    · simp [Datum.order] at h1
  | number s m e =>
    have he := read_place x s m e hr
    refine ⟨s, m, e, rfl, he, ?_⟩
    rw [hr, order_un _ _ _ _ _ _ he pN, uN] at h1
    rw [hr, order_un _ _ _ _ _ _ he pM, uM] at h2
    have hw := whole_le s m e he
    generalize unD s m e = u at *
    have k1 : -1000000 * 2 ^ least ≤ u := by
      rcases Int.lt_or_le u (-1000000 * 2 ^ least) with c | c
      · rw [Std.compare_eq_lt.2 c] at h1; simp at h1
      · exact c
    have k2 : u ≤ 1000000 * 2 ^ least := by
      rcases Int.lt_or_le (1000000 * 2 ^ least) u with c | c
      · rw [Std.compare_eq_gt.2 c] at h2; simp at h2
      · exact c
    have k3 : u.natAbs ≤ 1000000 * 2 ^ least := by
      have e1 : (1000000 : Int) * 2 ^ least = ((1000000 * 2 ^ least : Nat) : Int) := by rw [Int.natCast_mul, cast_two_pow]; rfl
      have e2 : (-1000000 : Int) * 2 ^ least = -((1000000 * 2 ^ least : Nat) : Int) := by rw [Int.neg_mul, e1]
      rw [e1] at k2; rw [e2] at k1
      generalize 1000000 * 2 ^ least = z at *
      omega
    exact Nat.le_of_mul_le_mul_right (Nat.le_trans hw k3) (Nat.two_pow_pos least)

/-- Two ways to ask whether a word within the bounds is whole. -/
theorem whole_same {x : Nat} {s : Bool} {m : Nat} {e : Int} (h : double.read x = .number s m e) (he : -(least : Int) ≤ e) (hb : whole s m e < 2 ^ 53) :
    (FloatKind.f64.format.order (floatOfInt .f64 (sg s (whole s m e))) x == some .eq) = (FloatKind.f64.format.order x (truncW x) == some .eq) := by
  obtain ⟨s1, m1, e1, r1, p1, u1⟩ := fl_un (fl_ofInt (sg s (whole s m e)) (by rw [sg_natAbs]; exact hb))
  obtain ⟨s2, m2, e2, r2, p2, u2⟩ := fl_un (trunc_fl h hb)
  have f1 : FloatKind.f64.format.order (floatOfInt .f64 (sg s (whole s m e))) x = (Datum.number s1 m1 e1).order (.number s m e) := by rw [← r1, ← h]; rfl
  have f2 : FloatKind.f64.format.order x (truncW x) = (Datum.number s m e).order (.number s2 m2 e2) := by rw [← r2, ← h]; rfl
  rw [f1, f2, order_un _ _ _ _ _ _ p1 he, order_un _ _ _ _ _ _ he p2, u1, u2]
  generalize sg s (whole s m e) * 2 ^ least = a
  generalize unD s m e = b
  rw [Bool.eq_iff_iff]
  simp only [beq_iff_eq, Option.some.injEq]
  rw [Std.compare_eq_iff_eq, Std.compare_eq_iff_eq]
  exact ⟨Eq.symm, Eq.symm⟩

theorem ordb_fl {j x y : Nat} {a b : Int} (o : Ordering) (h : Fl j x a) (h' : Fl j y b) : (FloatKind.f64.format.order x y == some o) = (compare a b == o) := by
  rw [fl_order h h']; rfl

theorem loB_fl {x : Nat} {a : Int} (h : Fl 0 x a) : loB x = decide (-1000000 ≤ a) := by
  unfold loB
  rw [ordb_fl _ h minusMillion, ordb_fl _ h minusMillion]
  rcases Int.lt_trichotomy a (-1000000) with g | g | g
  · rw [Std.compare_eq_lt.2 g, decide_eq_false (by omega)]; rfl
  · subst g; decide
  · rw [Std.compare_eq_gt.2 g, decide_eq_true (by omega)]; rfl

theorem hiB_fl {x : Nat} {a : Int} (h : Fl 0 x a) : hiB x = decide (a ≤ 1000000) := by
  unfold hiB
  rw [ordb_fl _ h million, ordb_fl _ h million]
  rcases Int.lt_trichotomy a 1000000 with g | g | g
  · rw [Std.compare_eq_lt.2 g, decide_eq_true (by omega)]; rfl
  · subst g; decide
  · rw [Std.compare_eq_gt.2 g, decide_eq_false (by omega)]; rfl

theorem metB_fl {x : Nat} {a : Int} (h : Fl 0 x a) : metB x = decide (-1000000 ≤ a ∧ a ≤ 1000000) := by
  unfold metB
  rw [loB_fl h, hiB_fl h]
  by_cases g : -1000000 ≤ a ∧ a ≤ 1000000
  · obtain ⟨s, m, e, hr, he, hw⟩ := inside (x := x) (by rw [loB_fl h]; exact decide_eq_true g.1) (by rw [hiB_fl h]; exact decide_eq_true g.2)
    have t1 := toInt_whole hr (by omega)
    have t2 := fl_toInt h (by omega) (by omega)
    rw [t1] at t2
    have t3 := trunc_fl hr (by omega)
    rw [Option.some.inj t2] at t3
    rw [ordb_fl _ h t3]
    simp [g]
  · rw [decide_eq_false g]
    rcases Int.lt_or_le a (-1000000) with c | c
    · rw [decide_eq_false (by omega)]; rfl
    · rw [decide_eq_false (p := a ≤ 1000000) (by omega)]; simp

theorem metB_half {x : Nat} {a : Int} (h : Fl 1 x (2 * a + 1)) : metB x = false := by
  unfold metB
  by_cases g : loB x = true ∧ hiB x = true
  · obtain ⟨s, m, e, hr, he, hw⟩ := inside g.1 g.2
    have t := fl_dbl (trunc_fl hr (by omega))
    rw [ordb_fl _ h t]
    have : compare (2 * a + 1) (2 * sg s (whole s m e)) ≠ .eq := fun c => by have := Std.compare_eq_iff_eq.1 c; omega
    simp [this]
  · cases h1 : loB x
    · rfl
    · cases h2 : hiB x
      · rfl
      · exact absurd ⟨h1, h2⟩ g

end Go.Proofs.YtagkgejdammflaaGreat.Fl

namespace Go.Proofs.YtagkgejdammflaaGreat
open Fl
set_option maxRecDepth 100000

theorem archTrunc_run {x : Nat} {s : Bool} {m : Nat} {e : Int} (h : Ieee.double.read x = .number s m e) (w : World) : (callFunc 106 #[.float .f64 x]).run Tryz.prog w = .ok (.value (.float .f64 (truncW x))) w := by
  rw [run_callFunc_extern (e := Extern.MathFloor.toIntegral "math.archTrunc" .zero) Tryz.func106 (by kernel_rfl) (by kernel_rfl) (by kernel_rfl) (by kernel_rfl) #[.float .f64 x] w]
  have hd : FloatKind.f64.decode x = .number s m e := h
  have key : ∀ d, FloatKind.f64.decode x = d → d = .number s m e → (Extern.MathFloor.toIntegral "math.archTrunc" .zero #[.float .f64 x]).run Tryz.prog w = .ok (.float .f64 (truncW x)) w := by
    intro d h1 h2
    change Sem.run Tryz.prog (match FloatKind.f64.decode x with
      | .nan _ _ => _
      | d => (pure (Value.float .f64 (FloatKind.f64.encode (d.integral .zero))) : Sem Value)) w = _
    rw [h1, h2]
    unfold truncW
    rw [h]
    rfl
  rw [key _ hd rfl]
  rfl

theorem trunc_any {x : Nat} {s : Bool} {m : Nat} {e : Int} (h : Ieee.double.read x = .number s m e) (w : World) :
    Calls Tryz.prog 86 #[.float .f64 x] w fun e w' => e = .returned (.float .f64 (truncW x)) ∧ w = w' := by
  have ho := archTrunc_run h
  clear h
  go_enter Tryz.func86, Tryz.ntmps86
  go_wp2
  go_ret
  exact ⟨rfl, rfl⟩

theorem metres_any (x : Nat) (w : World) : Calls Tryz.prog 73 #[.float .f64 x] w fun e w' => e = .returned (.bool (metB x)) ∧ w = w' := by
  have hm : metB x = (loB x && hiB x && (FloatKind.f64.format.order x (truncW x) == some .eq)) := rfl
  have Hm := Lib.hid hm; clear hm
  cases h1 : loB x with
  | false =>
    have k1 : metB x = false := by rw [Hm.out, h1]; rfl
    unfold loB at h1
    have K := Lib.hid k1; clear k1 Hm
    go_enter Tryz.func73, Tryz.ntmps73
    go_wp2
    go_ret
    exact ⟨ret_bool K.out.symm, rfl⟩
  | true =>
    cases h2 : hiB x with
    | false =>
      have k1 : metB x = false := by rw [Hm.out, h1, h2]; rfl
      unfold loB at h1
      unfold hiB at h2
      have K := Lib.hid k1; clear k1 Hm
      go_enter Tryz.func73, Tryz.ntmps73
      go_wp2
      go_ret
      exact ⟨ret_bool K.out.symm, rfl⟩
    | true =>
      obtain ⟨s, m, e, hr, he, hw⟩ := inside h1 h2
      have k1 : metB x = (FloatKind.f64.format.order x (truncW x) == some .eq) := by rw [Hm.out, h1, h2]; rfl
      unfold loB at h1
      unfold hiB at h2
      have K := Lib.hid k1; have R := Lib.hid hr; clear k1 Hm hr
      go_enter Tryz.func73, Tryz.ntmps73
      go_wp2_with fail
      refine (trunc_any R.out _).mono ?_; rintro e w' ⟨rfl, rfl⟩
      go_wp2_with fail
      go_ret
      exact ⟨ret_bool K.out.symm, rfl⟩

theorem whole_any (x : Nat) (w : World) : Calls Tryz.prog 70 #[.float .f64 x] w fun e w' => e = .returned (.bool (metB x)) ∧ w = w' := by
  have hm : metB x = (loB x && hiB x && (FloatKind.f64.format.order x (truncW x) == some .eq)) := rfl
  have Hm := Lib.hid hm; clear hm
  cases h1 : loB x with
  | false =>
    have k1 : metB x = false := by rw [Hm.out, h1]; rfl
    unfold loB at h1
    have K := Lib.hid k1; clear k1 Hm
    go_enter Tryz.func70, Tryz.ntmps70
    go_wp2
    go_ret
    exact ⟨ret_bool K.out.symm, rfl⟩
  | true =>
    cases h2 : hiB x with
    | false =>
      have k1 : metB x = false := by rw [Hm.out, h1, h2]; rfl
      unfold loB at h1
      unfold hiB at h2
      have K := Lib.hid k1; clear k1 Hm
      go_enter Tryz.func70, Tryz.ntmps70
      go_wp2
      go_ret
      exact ⟨ret_bool K.out.symm, rfl⟩
    | true =>
      obtain ⟨s, m, e, hr, he, hw⟩ := inside h1 h2
      have k1 : metB x = (FloatKind.f64.format.order (floatOfInt .f64 (sg s (whole s m e))) x == some .eq) := by rw [Hm.out, h1, h2, whole_same hr he (by omega)]; rfl
      have t1 := toInt_whole hr (by omega)
      have c1 : ∀ w, (convert 37 2 (.float .f64 x)).run Tryz.prog w = .ok (.int .i64 (sg s (whole s m e))) w := fun w => run_convert_float_int w 37 2 .f64 .i64 x _ (by rw [Tryz.underlying37]; rfl) Tryz.underlying2 t1
      unfold loB at h1
      unfold hiB at h2
      have K := Lib.hid k1; clear k1 Hm hr t1
      go_enter Tryz.func70, Tryz.ntmps70
      go_wp2_with fail
      go_ret
      exact ⟨ret_bool K.out.symm, rfl⟩

theorem Place_any (x y : Nat) (w : World) : Calls Tryz.prog 57 #[.complex .f64 x y] w fun e w' => e = .returned (.bool (metB x && metB y)) ∧ w = w' := by
  cases h1 : metB x
  · have H := Lib.hid h1; clear h1
    go_enter Tryz.func57, Tryz.ntmps57
    go_wp2_with fail
    refine (metres_any x _).mono ?_; rintro e w' ⟨rfl, rfl⟩
    rw [H.out]
    go_wp2_with fail
    go_ret
    exact ⟨rfl, rfl⟩
  · have H := Lib.hid h1; clear h1
    go_enter Tryz.func57, Tryz.ntmps57
    go_wp2_with fail
    refine (metres_any x _).mono ?_; rintro e w' ⟨rfl, rfl⟩
    rw [H.out]
    go_wp2_with fail
    refine (metres_any y _).mono ?_; rintro e w' ⟨rfl, rfl⟩
    go_wp2_with fail
    go_ret
    exact ⟨rfl, rfl⟩

theorem refPlace_any (x y : Nat) (w : World) : Calls Tryz.prog 51 #[.complex .f64 x y] w fun e w' => e = .returned (.bool (metB x && metB y)) ∧ w = w' := by
  cases h1 : metB x
  · have H := Lib.hid h1; clear h1
    go_enter Tryz.func51, Tryz.ntmps51
    go_wp2_with fail
    refine (whole_any x _).mono ?_; rintro e w' ⟨rfl, rfl⟩
    rw [H.out]
    go_wp2_with fail
    go_ret
    exact ⟨rfl, rfl⟩
  · have H := Lib.hid h1; clear h1
    go_enter Tryz.func51, Tryz.ntmps51
    go_wp2_with fail
    refine (whole_any x _).mono ?_; rintro e w' ⟨rfl, rfl⟩
    rw [H.out]
    go_wp2_with fail
    refine (whole_any y _).mono ?_; rintro e w' ⟨rfl, rfl⟩
    go_wp2_with fail
    go_ret
    exact ⟨rfl, rfl⟩

end Go.Proofs.YtagkgejdammflaaGreat
