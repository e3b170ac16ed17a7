/- Plain facts on IEEE words, second part: any finite word counted in units of the least place; cut towards nought; which words are whole numbers within a million. No condition beside those named. -/
import Derived.Test.YtakjjnkjmkipfaaFloat
namespace Go.Proofs.Ytakjjnkjmkipfaa.Fl
open Ieee

def least : Nat := 1074

/-- A number in units of the least place. -/
def unD (s : Bool) (m : Nat) (e : Int) : Int := sg s m * 2 ^ (e + (least : Int)).toNat

theorem order_un (s t : Bool) (m n : Nat) (e f : Int) (he : -(least : Int) ≤ e) (hf : -(least : Int) ≤ f) :
    (Datum.number s m e).order (.number t n f) = some (compare (unD s m e) (unD t n f)) := by
  simp only [Datum.order, signed_eq]
  rw [compare_of (X := sg s m * 2 ^ (e - min e f).toNat) (Y := sg t n * 2 ^ (f - min e f).toNat) (a := unD s m e) (b := unD t n f) (c := 2 ^ (min e f + (least : Int)).toNat) (d := 1) (two_pow_pos _) (by decide)]
  · unfold unD; rw [Int.mul_assoc, ← Int.pow_add, Int.mul_one, show (e - min e f).toNat + (min e f + (least : Int)).toNat = (e + (least : Int)).toNat from by omega]
  · unfold unD; rw [Int.mul_assoc, ← Int.pow_add, Int.mul_one, show (f - min e f).toNat + (min e f + (least : Int)).toNat = (f + (least : Int)).toNat from by omega]

theorem read_place (x : Nat) (s : Bool) (m : Nat) (e : Int) (h : double.read x = .number s m e) : -(least : Int) ≤ e := by
  have hl : double.leastPlace = -1074 := by decide
  unfold Format.read at h
  simp only [hl] at h
  unfold least
  split at h
  · cases h; omega
  · split at h
    · cases h; omega
    · split at h <;> cases h

/-- The whole part. -/
def whole (s : Bool) (m : Nat) (e : Int) : Nat := Toward.cut .zero s (m <<< e.toNat) (-e).toNat

theorem cut_zero (s : Bool) (x drop : Nat) : Toward.cut .zero s x drop = x / 2 ^ drop := by
  unfold Toward.cut
  simp only [Nat.one_shiftLeft, Bool.toNat_false, Nat.add_zero]
  by_cases c : drop ≤ x.log2 + 2
  · rw [Nat.min_eq_left c]
  · rw [Nat.min_eq_right (by omega)]
    have a : x < 2 ^ (x.log2 + 2) := Nat.lt_of_lt_of_le Nat.lt_log2_self (Nat.pow_le_pow_right (by decide) (by omega))
    have b : x < 2 ^ drop := Nat.lt_of_lt_of_le a (Nat.pow_le_pow_right (by decide) (by omega))
    rw [Nat.div_eq_of_lt a, Nat.div_eq_of_lt b]

theorem whole_le (s : Bool) (m : Nat) (e : Int) (he : -(least : Int) ≤ e) : whole s m e * 2 ^ least ≤ (unD s m e).natAbs := by
  unfold whole unD
  rw [cut_zero, Int.natAbs_mul, sg_natAbs, natAbs_two_pow, Nat.shiftLeft_eq]
  have a : m * 2 ^ e.toNat / 2 ^ (-e).toNat * 2 ^ (-e).toNat ≤ m * 2 ^ e.toNat := Nat.div_mul_le_self _ _
  have hl : least = (-e).toNat + (least - (-e).toNat) := by omega
  calc m * 2 ^ e.toNat / 2 ^ (-e).toNat * 2 ^ least
      = m * 2 ^ e.toNat / 2 ^ (-e).toNat * 2 ^ (-e).toNat * 2 ^ (least - (-e).toNat) := by rw [Nat.mul_assoc, ← Nat.pow_add, ← hl]
    _ ≤ m * 2 ^ e.toNat * 2 ^ (least - (-e).toNat) := Nat.mul_le_mul_right _ a
    _ = m * 2 ^ (e + (least : Int)).toNat := by rw [Nat.mul_assoc, ← Nat.pow_add, show e.toNat + (least - (-e).toNat) = (e + (least : Int)).toNat from by omega]

theorem fl_un {x : Nat} {n : Int} (h : Fl 0 x n) : ∃ s m e, double.read x = .number s m e ∧ -(least : Int) ≤ e ∧ unD s m e = n * 2 ^ least := by
  obtain ⟨s, m, k, e, v⟩ := h
  have hp := read_place x s m _ e
  refine ⟨s, m, _, e, hp, ?_⟩
  unfold unD
  rw [Int.pow_zero, Int.mul_one] at v
  rw [v, Int.mul_assoc, ← Int.pow_add, show k + (-(k : Int) + (least : Int)).toNat = least from by omega]

/-- What the cut towards nought of a word is, as a word. -/
def truncW (x : Nat) : Nat := double.write ((double.read x).integral .zero)

theorem trunc_fl {x : Nat} {s : Bool} {m : Nat} {e : Int} (h : double.read x = .number s m e) (hb : whole s m e < 2 ^ 53) : Fl 0 (truncW x) (sg s (whole s m e)) := by
  unfold truncW
  rw [h]
  exact nearest_val s (whole s m e) 0 0 _ (by omega) (by rw [sg_natAbs]; exact hb) (by simp)

theorem toInt_whole {x : Nat} {s : Bool} {m : Nat} {e : Int} (h : double.read x = .number s m e) (hb : whole s m e < 2 ^ 53) : floatToIntVal .f64 x .i64 = some (sg s (whole s m e)) := by
  have ht : (FloatKind.f64.decode x).toInt .zero = some (sg s (whole s m e)) := by
    show (double.read x).toInt .zero = _
    rw [h]
    simp only [Datum.toInt, Datum.integral]
    rw [signed_eq, Int.pow_zero, Int.mul_one]; rfl
  unfold floatToIntVal
  rw [ht]
  have i1 : IntKind.i64.min = -9223372036854775808 := by decide
  have i2 : IntKind.i64.max = 9223372036854775807 := by decide
  simp only [i1, i2]
  have := sg_natAbs s (whole s m e)
  rw [if_pos (by omega)]

theorem million : Fl 0 4696837146684686336 1000000 := ⟨false, 1000000 * 2 ^ 33, 33, by decide, by decide⟩
theorem minusMillion : Fl 0 13920209183539462144 (-1000000) := ⟨true, 1000000 * 2 ^ 33, 33, by decide, by decide⟩
theorem pastMillion : Fl 0 4696837155274620928 1000001 := ⟨false, 1000001 * 2 ^ 33, 33, by decide, by decide⟩
theorem half : Fl 1 4602678819172646912 1 := ⟨false, 2 ^ 52, 53, by decide, by decide⟩

def loB (x : Nat) : Bool := FloatKind.f64.format.order x 13920209183539462144 == some .gt || FloatKind.f64.format.order x 13920209183539462144 == some .eq
def hiB (x : Nat) : Bool := FloatKind.f64.format.order x 4696837146684686336 == some .lt || FloatKind.f64.format.order x 4696837146684686336 == some .eq
/-- Is it a part of a place? -/
def metB (x : Nat) : Bool := loB x && hiB x && (FloatKind.f64.format.order x (truncW x) == some .eq)

/-- Within the bounds a word is a number whose whole part is at most a million. -/
theorem inside {x : Nat} (h1 : loB x = true) (h2 : hiB x = true) : ∃ s m e, double.read x = .number s m e ∧ -(least : Int) ≤ e ∧ whole s m e ≤ 1000000 := by
  unfold loB at h1
  unfold hiB at h2
  obtain ⟨sM, mM, eM, rM, pM, uM⟩ := fl_un million
  obtain ⟨sN, mN, eN, rN, pN, uN⟩ := fl_un minusMillion
  have f1 : FloatKind.f64.format.order x 13920209183539462144 = (double.read x).order (.number sN mN eN) := by rw [← rN]; rfl
  have f2 : FloatKind.f64.format.order x 4696837146684686336 = (double.read x).order (.number sM mM eM) := by rw [← rM]; rfl
  rw [f1] at h1
  rw [f2] at h2
  cases hr : double.read x with
  | nan s t => rw [hr] at h1; simp [Datum.order] at h1
  | infinity s =>
    rw [hr] at h1 h2
    cases s
    · simp [Datum.order] at h2
    · simp [Datum.order] at h1
  | number s m e =>
    have he := read_place x s m e hr
    refine ⟨s, m, e, rfl, he, ?_⟩
    rw [hr, order_un _ _ _ _ _ _ he pN, uN] at h1
    rw [hr, order_un _ _ _ _ _ _ he pM, uM] at h2
    have hw := whole_le s m e he
    generalize unD s m e = u at *
    have k1 : -1000000 * 2 ^ least ≤ u := by
      rcases Int.lt_or_le u (-1000000 * 2 ^ least) with c | c
      · rw [Std.compare_eq_lt.2 c] at h1; simp at h1
      · exact c
    have k2 : u ≤ 1000000 * 2 ^ least := by
      rcases Int.lt_or_le (1000000 * 2 ^ least) u with c | c
      · rw [Std.compare_eq_gt.2 c] at h2; simp at h2
      · exact c
    have k3 : u.natAbs ≤ 1000000 * 2 ^ least := by
      have e1 : (1000000 : Int) * 2 ^ least = ((1000000 * 2 ^ least : Nat) : Int) := by rw [Int.natCast_mul, cast_two_pow]; rfl
      have e2 : (-1000000 : Int) * 2 ^ least = -((1000000 * 2 ^ least : Nat) : Int) := by rw [Int.neg_mul, e1]
      rw [e1] at k2; rw [e2] at k1
      generalize 1000000 * 2 ^ least = z at *
      omega
    exact Nat.le_of_mul_le_mul_right (Nat.le_trans hw k3) (Nat.two_pow_pos least)

/-- Two ways to ask whether a word within the bounds is whole. -/
theorem whole_same {x : Nat} {s : Bool} {m : Nat} {e : Int} (h : double.read x = .number s m e) (he : -(least : Int) ≤ e) (hb : whole s m e < 2 ^ 53) :
    (FloatKind.f64.format.order (floatOfInt .f64 (sg s (whole s m e))) x == some .eq) = (FloatKind.f64.format.order x (truncW x) == some .eq) := by
  obtain ⟨s1, m1, e1, r1, p1, u1⟩ := fl_un (fl_ofInt (sg s (whole s m e)) (by rw [sg_natAbs]; exact hb))
  obtain ⟨s2, m2, e2, r2, p2, u2⟩ := fl_un (trunc_fl h hb)
  have f1 : FloatKind.f64.format.order (floatOfInt .f64 (sg s (whole s m e))) x = (Datum.number s1 m1 e1).order (.number s m e) := by rw [← r1, ← h]; rfl
  have f2 : FloatKind.f64.format.order x (truncW x) = (Datum.number s m e).order (.number s2 m2 e2) := by rw [← r2, ← h]; rfl
  rw [f1, f2, order_un _ _ _ _ _ _ p1 he, order_un _ _ _ _ _ _ he p2, u1, u2]
  generalize sg s (whole s m e) * 2 ^ least = a
  generalize unD s m e = b
  rw [Bool.eq_iff_iff]
  simp only [beq_iff_eq, Option.some.injEq]
  rw [Std.compare_eq_iff_eq, Std.compare_eq_iff_eq]
  exact ⟨Eq.symm, Eq.symm⟩

theorem ordb_fl {j x y : Nat} {a b : Int} (o : Ordering) (h : Fl j x a) (h' : Fl j y b) : (FloatKind.f64.format.order x y == some o) = (compare a b == o) := by
  rw [fl_order h h']; rfl

theorem loB_fl {x : Nat} {a : Int} (h : Fl 0 x a) : loB x = decide (-1000000 ≤ a) := by
  unfold loB
  rw [ordb_fl _ h minusMillion, ordb_fl _ h minusMillion]
  rcases Int.lt_trichotomy a (-1000000) with g | g | g
  · rw [Std.compare_eq_lt.2 g, decide_eq_false (by omega)]; rfl
  · subst g; decide
  · rw [Std.compare_eq_gt.2 g, decide_eq_true (by omega)]; rfl

theorem hiB_fl {x : Nat} {a : Int} (h : Fl 0 x a) : hiB x = decide (a ≤ 1000000) := by
  unfold hiB
  rw [ordb_fl _ h million, ordb_fl _ h million]
  rcases Int.lt_trichotomy a 1000000 with g | g | g
  · rw [Std.compare_eq_lt.2 g, decide_eq_true (by omega)]; rfl
  · subst g; decide
  · rw [Std.compare_eq_gt.2 g, decide_eq_false (by omega)]; rfl

theorem metB_fl {x : Nat} {a : Int} (h : Fl 0 x a) : metB x = decide (-1000000 ≤ a ∧ a ≤ 1000000) := by
  unfold metB
  rw [loB_fl h, hiB_fl h]
  by_cases g : -1000000 ≤ a ∧ a ≤ 1000000
  · obtain ⟨s, m, e, hr, he, hw⟩ := inside (x := x) (by rw [loB_fl h]; exact decide_eq_true g.1) (by rw [hiB_fl h]; exact decide_eq_true g.2)
    have t1 := toInt_whole hr (by omega)
    have t2 := fl_toInt h (by omega) (by omega)
    rw [t1] at t2
    have t3 := trunc_fl hr (by omega)
    rw [Option.some.inj t2] at t3
    rw [ordb_fl _ h t3]
    simp [g]
  · rw [decide_eq_false g]
    rcases Int.lt_or_le a (-1000000) with c | c
    · rw [decide_eq_false (by omega)]; rfl
    · rw [decide_eq_false (p := a ≤ 1000000) (by omega)]; simp

theorem metB_half {x : Nat} {a : Int} (h : Fl 1 x (2 * a + 1)) : metB x = false := by
  unfold metB
  by_cases g : loB x = true ∧ hiB x = true
  · obtain ⟨s, m, e, hr, he, hw⟩ := inside g.1 g.2
    have t := fl_dbl (trunc_fl hr (by omega))
    rw [ordb_fl _ h t]
    have : compare (2 * a + 1) (2 * sg s (whole s m e)) ≠ .eq := fun c => by have := Std.compare_eq_iff_eq.1 c; omega
    simp [this]
  · cases h1 : loB x
    · rfl
    · cases h2 : hiB x
      · rfl
      · exact absurd ⟨h1, h2⟩ g

end Go.Proofs.Ytakjjnkjmkipfaa.Fl
