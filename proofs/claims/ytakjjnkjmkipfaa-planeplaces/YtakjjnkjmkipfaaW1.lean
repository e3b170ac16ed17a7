/- Contracts of package plane's and the document's small functions on places: what each returns at words that stand for whole numbers within the bounds named. -/
import Derived.Test.YtakjjnkjmkipfaaChecked
import Derived.Test.YtakjjnkjmkipfaaFloat
import Derived.WalkKit
import Derived.WalkLawsBesides
import Derived.Lib.Hide
import Derived.KernelRfl
import Derived.IntWalk
namespace Go.Proofs.Ytakjjnkjmkipfaa
open Fl

/-- It returns a float that stands for 'n', the nought without a sign; memory is as it was. -/
def RetFl (n : Int) (w : World) (e : Ending) (w' : World) : Prop := ∃ r, e = .returned (.float .f64 r) ∧ Fl 0 r n ∧ (n = 0 → r = 0) ∧ w = w'

theorem unsigned_any (x : Nat) (n : Int) (w : World) (h : Fl 0 x n) : Calls Try.prog 25 #[.float .f64 x] w (RetFl n w) := by
  have ho := fl_order h fl_zero
  by_cases z : n = 0
  · have hb : (FloatKind.f64.format.order x 0 == some .eq) = true := by rw [ho, z]; rfl
    clear ho
    go_enter Try.func25, Try.ntmps25
    go_wp2
    go_ret
    exact ⟨0, rfl, z ▸ fl_zero, fun _ => rfl, rfl⟩
  · have hb : (FloatKind.f64.format.order x 0 == some .eq) = false := by
      rw [ho]
      have : compare n 0 ≠ .eq := fun c => z (Std.compare_eq_iff_eq.1 c)
      simp [this]
    clear ho
    go_enter Try.func25, Try.ntmps25
    go_wp2
    go_ret
    exact ⟨x, rfl, h, fun c => absurd c z, rfl⟩

theorem abs_mul_lt {a b : Int} {A B : Nat} (ha : a.natAbs ≤ A) (hb : b.natAbs ≤ B) : (a * b).natAbs ≤ A * B := by
  rw [Int.natAbs_mul]; exact Nat.mul_le_mul ha hb

theorem dot_any (x1 y1 x2 y2 : Nat) (a b c d : Int) (w : World) (h1 : Fl 0 x1 a) (h2 : Fl 0 y1 b) (h3 : Fl 0 x2 c) (h4 : Fl 0 y2 d)
    (ba : a.natAbs ≤ 4000000) (bb : b.natAbs ≤ 4000000) (bc : c.natAbs ≤ 4000000) (bd : d.natAbs ≤ 4000000) :
    Calls Try.prog 13 #[.complex .f64 x1 y1, .complex .f64 x2 y2] w (RetFl (a * c + b * d) w) := by
  have m1 := abs_mul_lt ba bc
  have m2 := abs_mul_lt bb bd
  obtain ⟨p, hp, fp⟩ := fl_mul h1 h3 (by omega)
  obtain ⟨q, hq, fq⟩ := fl_mul h2 h4 (by omega)
  obtain ⟨r, hr, fr⟩ := fl_add (by omega) fp fq (by omega)
  have o1 : ∀ t w, (binOp .mul t (.float .f64 x1) (.float .f64 x2)).run Try.prog w = .ok (.float .f64 p) w := fun t w => run_float_arith w .mul t .f64 x1 x2 p hp
  have o2 : ∀ t w, (binOp .mul t (.float .f64 y1) (.float .f64 y2)).run Try.prog w = .ok (.float .f64 q) w := fun t w => run_float_arith w .mul t .f64 y1 y2 q hq
  have o3 : ∀ t w, (binOp .add t (.float .f64 p) (.float .f64 q)).run Try.prog w = .ok (.float .f64 r) w := fun t w => run_float_arith w .add t .f64 p q r hr
  clear hp hq hr m1 m2
  go_enter Try.func13, Try.ntmps13
  go_wp2_with ((go_at_call 25; refine (unsigned_any r _ _ fr).mono ?_; rintro e w' ⟨r', rfl, f', z', rfl⟩))
  go_ret
  exact ⟨r', rfl, f', z', rfl⟩

theorem cross_any (x1 y1 x2 y2 : Nat) (a b c d : Int) (w : World) (h1 : Fl 0 x1 a) (h2 : Fl 0 y1 b) (h3 : Fl 0 x2 c) (h4 : Fl 0 y2 d)
    (ba : a.natAbs ≤ 4000000) (bb : b.natAbs ≤ 4000000) (bc : c.natAbs ≤ 4000000) (bd : d.natAbs ≤ 4000000) :
    Calls Try.prog 14 #[.complex .f64 x1 y1, .complex .f64 x2 y2] w (RetFl (a * d - b * c) w) := by
  have m1 := abs_mul_lt ba bd
  have m2 := abs_mul_lt bb bc
  obtain ⟨p, hp, fp⟩ := fl_mul h1 h4 (by omega)
  obtain ⟨q, hq, fq⟩ := fl_mul h2 h3 (by omega)
  obtain ⟨r, hr, fr⟩ := fl_sub (by omega) fp fq (by omega)
  have o1 : ∀ t w, (binOp .mul t (.float .f64 x1) (.float .f64 y2)).run Try.prog w = .ok (.float .f64 p) w := fun t w => run_float_arith w .mul t .f64 x1 y2 p hp
  have o2 : ∀ t w, (binOp .mul t (.float .f64 y1) (.float .f64 x2)).run Try.prog w = .ok (.float .f64 q) w := fun t w => run_float_arith w .mul t .f64 y1 x2 q hq
  have o3 : ∀ t w, (binOp .sub t (.float .f64 p) (.float .f64 q)).run Try.prog w = .ok (.float .f64 r) w := fun t w => run_float_arith w .sub t .f64 p q r hr
  clear hp hq hr m1 m2
  go_enter Try.func14, Try.ntmps14
  go_wp2_with ((go_at_call 25; refine (unsigned_any r _ _ fr).mono ?_; rintro e w' ⟨r', rfl, f', z', rfl⟩))
  go_ret
  exact ⟨r', rfl, f', z', rfl⟩

theorem square_any (x y : Nat) (a b : Int) (w : World) (h1 : Fl 0 x a) (h2 : Fl 0 y b) (ba : a.natAbs ≤ 4000000) (bb : b.natAbs ≤ 4000000) :
    Calls Try.prog 17 #[.complex .f64 x y] w (RetFl (a * a + b * b) w) := by
  go_enter Try.func17, Try.ntmps17
  go_wp2_with (go_at_call 13; refine (dot_any x y x y a b a b _ h1 h2 h1 h2 ba bb ba bb).mono ?_; rintro e w' ⟨r', rfl, f', z', rfl⟩)
  go_ret
  exact ⟨r', rfl, f', z', rfl⟩

theorem at_any (x y : Nat) (a b : Int) (w : World) (h1 : Fl 0 x a) (h2 : Fl 0 y b) (ba : a.natAbs ≤ 4000000) (bb : b.natAbs ≤ 4000000) :
    Calls Try.prog 26 #[.complex .f64 x y] w fun e w' => e = .returned (.tuple #[.int .i64 a, .int .i64 b]) ∧ w = w' := by
  have t1 := fl_toInt h1 (by omega) (by omega)
  have t2 := fl_toInt h2 (by omega) (by omega)
  have c1 : ∀ w, (convert 24 2 (.float .f64 x)).run Try.prog w = .ok (.int .i64 a) w := fun w => run_convert_float_int w 24 2 .f64 .i64 x a (by rw [Try.underlying24]; rfl) Try.underlying2 t1
  have c2 : ∀ w, (convert 24 2 (.float .f64 y)).run Try.prog w = .ok (.int .i64 b) w := fun w => run_convert_float_int w 24 2 .f64 .i64 y b (by rw [Try.underlying24]; rfl) Try.underlying2 t2
  clear t1 t2
  go_enter Try.func26, Try.ntmps26
  go_wp2
  go_ret2
  exact ⟨rfl, rfl⟩

theorem i64_of_abs {x : Int} {B : Nat} (h : x.natAbs ≤ B) (hB : B ≤ 9223372036854775807) : IntKind.i64.wrap x = x := IntWalk.i64_in _ (by omega)

theorem refDot_any (x1 y1 x2 y2 : Nat) (a b c d : Int) (w : World) (h1 : Fl 0 x1 a) (h2 : Fl 0 y1 b) (h3 : Fl 0 x2 c) (h4 : Fl 0 y2 d)
    (ba : a.natAbs ≤ 4000000) (bb : b.natAbs ≤ 4000000) (bc : c.natAbs ≤ 4000000) (bd : d.natAbs ≤ 4000000) :
    Calls Try.prog 15 #[.complex .f64 x1 y1, .complex .f64 x2 y2] w fun e w' => e = .returned (.int .i64 (a * c + b * d)) ∧ w = w' := by
  have m1 := abs_mul_lt ba bc
  have m2 := abs_mul_lt bb bd
  go_enter Try.func15, Try.ntmps15
  go_wp2_with fail
  refine (at_any x1 y1 a b _ h1 h2 ba bb).mono ?_; rintro e w' ⟨rfl, rfl⟩
  go_wp2_with fail
  refine (at_any x2 y2 c d _ h3 h4 bc bd).mono ?_; rintro e w' ⟨rfl, rfl⟩
  go_wp2_with fail
  go_ret
  exact ⟨rfl, rfl⟩

theorem refCross_any (x1 y1 x2 y2 : Nat) (a b c d : Int) (w : World) (h1 : Fl 0 x1 a) (h2 : Fl 0 y1 b) (h3 : Fl 0 x2 c) (h4 : Fl 0 y2 d)
    (ba : a.natAbs ≤ 4000000) (bb : b.natAbs ≤ 4000000) (bc : c.natAbs ≤ 4000000) (bd : d.natAbs ≤ 4000000) :
    Calls Try.prog 16 #[.complex .f64 x1 y1, .complex .f64 x2 y2] w fun e w' => e = .returned (.int .i64 (a * d - b * c)) ∧ w = w' := by
  have m1 := abs_mul_lt ba bd
  have m2 := abs_mul_lt bb bc
  go_enter Try.func16, Try.ntmps16
  go_wp2_with fail
  refine (at_any x1 y1 a b _ h1 h2 ba bb).mono ?_; rintro e w' ⟨rfl, rfl⟩
  go_wp2_with fail
  refine (at_any x2 y2 c d _ h3 h4 bc bd).mono ?_; rintro e w' ⟨rfl, rfl⟩
  go_wp2_with fail
  go_ret
  exact ⟨rfl, rfl⟩

/-- A part of a place. -/
def part (a : Int) : Int := a.tmod 1000001

theorem part_le (a : Int) : (part a).natAbs ≤ 1000000 := by
  unfold part
  have h := Int.natAbs_tmod a 1000001
  rw [h]
  have : a.natAbs % (1000001 : Int).natAbs < 1000001 := Nat.mod_lt _ (by decide)
  omega

/-- Its word. -/
def pf (a : Int) : Nat := floatOfInt .f64 (part a)

theorem pf_fl (a : Int) : Fl 0 (pf a) (part a) := fl_ofInt _ (by have := part_le a; omega)

theorem place_any (a b : Int) (w : World) :
    Calls Try.prog 9 #[.int .i32 a, .int .i32 b] w fun e w' => e = .returned (.complex .f64 (pf a) (pf b)) ∧ w = w' := by
  go_enter Try.func9, Try.ntmps9
  go_wp2
  go_ret
  exact ⟨rfl, rfl⟩

theorem csub_fl {x1 y1 x2 y2 : Nat} {a b c d : Int} (h1 : Fl 0 x1 a) (h2 : Fl 0 y1 b) (h3 : Fl 0 x2 c) (h4 : Fl 0 y2 d)
    (ba : (a - c).natAbs ≤ 4000000) (bb : (b - d).natAbs ≤ 4000000) :
    ∃ r i, (∀ t w, (binOp .sub t (.complex .f64 x1 y1) (.complex .f64 x2 y2)).run Try.prog w = .ok (.complex .f64 r i) w) ∧ Fl 0 r (a - c) ∧ Fl 0 i (b - d) := by
  obtain ⟨r, hr, fr⟩ := fl_sub (by omega) h1 h3 (by omega)
  obtain ⟨i, hi, fi⟩ := fl_sub (by omega) h2 h4 (by omega)
  exact ⟨r, i, fun t w => run_complex_sum w .sub (Or.inr rfl) t .f64 x1 y1 x2 y2 r i (by unfold cSumBits; rw [hr, hi]; rfl), fr, fi⟩

theorem ord_fl {j x y : Nat} {a b : Int} (o : Ordering) (h : Fl j x a) (h' : Fl j y b) : (FloatKind.f64.format.order x y == some o) = (compare a b == o) := by
  rw [fl_order h h']; rfl

theorem gt_fact {x : Nat} {n : Int} (h : Fl 0 x n) : (FloatKind.f64.format.order x 0 == some .gt) = decide (0 < n) := by
  rw [ord_fl _ h fl_zero]
  by_cases g : 0 < n
  · rw [Std.compare_eq_gt.2 g]; simp [g]
  · have : compare n 0 ≠ .gt := fun c => g (Std.compare_eq_gt.1 c)
    simp [g, this]

theorem lt_fact {x : Nat} {n : Int} (h : Fl 0 x n) : (FloatKind.f64.format.order x 0 == some .lt) = decide (n < 0) := by
  rw [ord_fl _ h fl_zero]
  by_cases g : n < 0
  · rw [Std.compare_eq_lt.2 g]; simp [g]
  · have : compare n 0 ≠ .lt := fun c => g (Std.compare_eq_lt.1 c)
    simp [g, this]

theorem turn_any (x1 y1 x2 y2 x3 y3 : Nat) (a b c d p q : Int) (w : World) (h1 : Fl 0 x1 a) (h2 : Fl 0 y1 b) (h3 : Fl 0 x2 c) (h4 : Fl 0 y2 d) (h5 : Fl 0 x3 p) (h6 : Fl 0 y3 q)
    (b1 : (c - a).natAbs ≤ 4000000) (b2 : (d - b).natAbs ≤ 4000000) (b3 : (p - c).natAbs ≤ 4000000) (b4 : (q - d).natAbs ≤ 4000000) :
    Calls Try.prog 19 #[.complex .f64 x1 y1, .complex .f64 x2 y2, .complex .f64 x3 y3] w fun e w' => e = .returned (.int .i64 (((c - a) * (q - d) - (d - b) * (p - c)).sign)) ∧ w = w' := by
  obtain ⟨r, i, o1, f1, f2⟩ := csub_fl h3 h4 h1 h2 b1 b2
  obtain ⟨r', i', o2, f3, f4⟩ := csub_fl h5 h6 h3 h4 b3 b4
  generalize hn : (c - a) * (q - d) - (d - b) * (p - c) = n
  have Hn := Lib.hid hn; clear hn
  go_enter Try.func19, Try.ntmps19
  go_wp2_with fail
  refine (cross_any r i r' i' _ _ _ _ _ f1 f2 f3 f4 b1 b2 b3 b4).mono ?_
  rintro e w' ⟨u, rfl, fu, zu, rfl⟩
  clear o1 o2 zu
  rw [Hn.out] at fu; clear Hn
  have hg := gt_fact fu
  have hl := lt_fact fu
  rcases Int.lt_trichotomy n 0 with g | g | g
  · rw [decide_eq_false (by omega)] at hg
    rw [decide_eq_true g] at hl
    go_wp2
    go_ret
    exact ⟨by rw [Int.sign_eq_neg_one_of_neg g]; rfl, rfl⟩
  · rw [decide_eq_false (by omega)] at hg
    rw [decide_eq_false (by omega)] at hl
    go_wp2
    go_ret
    exact ⟨by rw [g]; rfl, rfl⟩
  · rw [decide_eq_true g] at hg
    clear hl
    go_wp2
    go_ret
    exact ⟨by rw [Int.sign_eq_one_of_pos g]; rfl, rfl⟩

theorem ahead_any (x1 y1 x2 y2 x3 y3 : Nat) (a b c d p q : Int) (w : World) (h1 : Fl 0 x1 a) (h2 : Fl 0 y1 b) (h3 : Fl 0 x2 c) (h4 : Fl 0 y2 d) (h5 : Fl 0 x3 p) (h6 : Fl 0 y3 q)
    (b1 : (c - a).natAbs ≤ 4000000) (b2 : (d - b).natAbs ≤ 4000000) (b3 : (p - c).natAbs ≤ 4000000) (b4 : (q - d).natAbs ≤ 4000000) :
    Calls Try.prog 20 #[.complex .f64 x1 y1, .complex .f64 x2 y2, .complex .f64 x3 y3] w fun e w' => e = .returned (.bool (decide (0 < (c - a) * (p - c) + (d - b) * (q - d)))) ∧ w = w' := by
  obtain ⟨r, i, o1, f1, f2⟩ := csub_fl h3 h4 h1 h2 b1 b2
  obtain ⟨r', i', o2, f3, f4⟩ := csub_fl h5 h6 h3 h4 b3 b4
  generalize hn : (c - a) * (p - c) + (d - b) * (q - d) = n
  have Hn := Lib.hid hn; clear hn
  go_enter Try.func20, Try.ntmps20
  go_wp2_with fail
  refine (dot_any r i r' i' _ _ _ _ _ f1 f2 f3 f4 b1 b2 b3 b4).mono ?_
  rintro e w' ⟨u, rfl, fu, zu, rfl⟩
  clear o1 o2 zu
  rw [Hn.out] at fu; clear Hn
  have hg := gt_fact fu
  go_wp2
  go_ret
  exact ⟨rfl, rfl⟩

theorem eq_fact {j x y : Nat} {a b : Int} (h : Fl j x a) (h' : Fl j y b) : (FloatKind.f64.format.order x y == some .eq) = decide (a = b) := by
  rw [ord_fl _ h h']
  by_cases g : a = b
  · subst g; simp
  · have : compare a b ≠ .eq := fun c => g (Std.compare_eq_iff_eq.1 c)
    simp [g, this]

theorem ge_fact {j x y : Nat} {a b : Int} (h : Fl j x a) (h' : Fl j y b) : (FloatKind.f64.format.order x y == some .gt || FloatKind.f64.format.order x y == some .eq) = decide (b ≤ a) := by
  rw [ord_fl _ h h', ord_fl _ h h']
  rcases Int.lt_trichotomy a b with g | g | g
  · rw [Std.compare_eq_lt.2 g, decide_eq_false (by omega)]; rfl
  · subst g; simp
  · rw [Std.compare_eq_gt.2 g, decide_eq_true (by omega)]; rfl

theorem le_fact {j x y : Nat} {a b : Int} (h : Fl j x a) (h' : Fl j y b) : (FloatKind.f64.format.order x y == some .lt || FloatKind.f64.format.order x y == some .eq) = decide (a ≤ b) := by
  rw [ord_fl _ h h', ord_fl _ h h']
  rcases Int.lt_trichotomy a b with g | g | g
  · rw [Std.compare_eq_lt.2 g, decide_eq_true (by omega)]; rfl
  · subst g; simp
  · rw [Std.compare_eq_gt.2 g, decide_eq_false (by omega)]; rfl

/-- The document's 'may a section between two places be so long'. -/
def fitsB (p q n : Int) : Bool := decide (1 ≤ n ∧ n ≤ 10000 ∧ (p ≠ 0 ∨ q ≠ 0) ∧ p * p + q * q ≤ n * n)

theorem ret_bool {a b : Bool} (h : a = b) : Ending.returned (.bool a) = .returned (.bool b) := by rw [h]

theorem fits_any (x1 y1 x2 y2 : Nat) (a b c d n : Int) (w : World) (h1 : Fl 0 x1 a) (h2 : Fl 0 y1 b) (h3 : Fl 0 x2 c) (h4 : Fl 0 y2 d)
    (b1 : (c - a).natAbs ≤ 4000000) (b2 : (d - b).natAbs ≤ 4000000) :
    Calls Try.prog 21 #[.complex .f64 x1 y1, .complex .f64 x2 y2, .int .i64 n] w fun e w' => e = .returned (.bool (fitsB (c - a) (d - b) n)) ∧ w = w' := by
  have e1 := eq_fact h1 h3
  have e2 := eq_fact h2 h4
  by_cases g : a = c ∧ b = d
  · rw [decide_eq_true g.1] at e1
    rw [decide_eq_true g.2] at e2
    have hf : fitsB (c - a) (d - b) n = false := by unfold fitsB; exact decide_eq_false (by omega)
    have Hf := Lib.hid hf; clear hf g
    go_enter Try.func21, Try.ntmps21
    go_wp2
    go_ret
    exact ⟨ret_bool Hf.out.symm, rfl⟩
  · have e12 : (FloatKind.f64.format.order x1 x2 == some .eq && FloatKind.f64.format.order y1 y2 == some .eq) = false := by
      rw [e1, e2]; simp; omega
    clear e1 e2
    by_cases g1 : n < 1
    · have hf : fitsB (c - a) (d - b) n = false := by unfold fitsB; exact decide_eq_false (by omega)
      have Hf := Lib.hid hf; clear hf g
      go_enter Try.func21, Try.ntmps21
      go_wp2
      go_ret
      exact ⟨ret_bool Hf.out.symm, rfl⟩
    · by_cases g2 : 10000 < n
      · have hf : fitsB (c - a) (d - b) n = false := by unfold fitsB; exact decide_eq_false (by omega)
        have Hf := Lib.hid hf; clear hf g
        go_enter Try.func21, Try.ntmps21
        go_wp2
        go_ret
        exact ⟨ret_bool Hf.out.symm, rfl⟩
      · have hf : fitsB (c - a) (d - b) n = decide ((c - a) * (c - a) + (d - b) * (d - b) ≤ n * n) := by
          unfold fitsB
          rw [decide_eq_decide]
          constructor
          · intro h; exact h.2.2.2
          · intro h; exact ⟨by omega, by omega, by omega, h⟩
        have Hf := Lib.hid hf; clear hf g
        obtain ⟨r, i, o1, f1, f2⟩ := csub_fl h3 h4 h1 h2 b1 b2
        have nn : (n * n).natAbs ≤ 10000 * 10000 := abs_mul_lt (by omega) (by omega)
        have fn := fl_ofInt (n * n) (by omega)
        have p0 : 1 ≤ n := by omega
        have p1 : n ≤ 10000 := by omega
        go_enter Try.func21, Try.ntmps21
        go_wp2_with fail
        refine (square_any r i _ _ _ f1 f2 b1 b2).mono ?_
        rintro e w' ⟨u, rfl, fu, zu, rfl⟩
        clear o1 zu
        have hg := ge_fact fn fu
        have HG := Lib.hid hg
        go_wp2
        go_ret
        exact ⟨ret_bool (by rw [Hf.out]), rfl⟩

end Go.Proofs.Ytakjjnkjmkipfaa
