/- Plain facts on IEEE words that stand for whole numbers (or halves) below 2^53: sums, products, order, and the way back to an integer are exact. No condition beside the bounds named in each. -/
import Derived.Laws.ComplexArith
namespace Go.Proofs.YtagkgejdammflaaGreat.Fl
open Ieee

def sg (s : Bool) (m : Nat) : Int := if s then -(m : Int) else (m : Int)

/-- 'd' stands for 'n / 2 ^ j'; its place is not above nought. -/
def Val (j : Nat) (d : Datum) (n : Int) : Prop :=
  ∃ (s : Bool) (m k : Nat), d = .number s m (-(k : Int)) ∧ sg s m * 2 ^ j = n * 2 ^ k

theorem sg_natAbs (s : Bool) (m : Nat) : (sg s m).natAbs = m := by
  unfold sg; cases s <;> simp

theorem sg_mul (s : Bool) (m c : Nat) : sg s (m * c) = sg s m * (c : Int) := by
  unfold sg; cases s <;> simp [Int.natCast_mul, Int.neg_mul]

theorem two_pow_pos (k : Nat) : (0 : Int) < 2 ^ k := Int.pow_pos (by decide)

theorem cast_two_pow (k : Nat) : ((2 ^ k : Nat) : Int) = (2 : Int) ^ k := by simp

theorem natAbs_two_pow (k : Nat) : ((2 : Int) ^ k).natAbs = 2 ^ k := by
  rw [← cast_two_pow]; exact Int.natAbs_natCast _

theorem signed_eq (s : Bool) (m up : Nat) : signed s m up = sg s m * 2 ^ up := by
  unfold signed sg
  rw [Nat.shiftLeft_eq]
  cases s <;> simp [Int.natCast_mul, Int.neg_mul]

theorem mag_eq {s : Bool} {m j k : Nat} {n : Int} (h : sg s m * 2 ^ j = n * 2 ^ k) : m * 2 ^ j = n.natAbs * 2 ^ k := by
  have := congrArg Int.natAbs h
  rw [Int.natAbs_mul, Int.natAbs_mul, sg_natAbs, natAbs_two_pow, natAbs_two_pow] at this
  exact this

theorem compare_of {X Y a b c d : Int} (hc : 0 < c) (hd : 0 < d) (hx : X * c = a * d) (hy : Y * c = b * d) : compare X Y = compare a b := by
  rcases Int.lt_trichotomy a b with h | h | h
  · have h1 : a * d < b * d := Int.mul_lt_mul_of_pos_right h hd
    rw [← hx, ← hy] at h1
    have h2 : X < Y := Int.lt_of_mul_lt_mul_right h1 (Int.le_of_lt hc)
    rw [Std.compare_eq_lt.2 h2, Std.compare_eq_lt.2 h]
  · subst h
    have : X * c = Y * c := by rw [hx, hy]
    have := Int.eq_of_mul_eq_mul_right (Int.ne_of_gt hc) this
    subst this
    simp
  · have h1 : b * d < a * d := Int.mul_lt_mul_of_pos_right h hd
    rw [← hx, ← hy] at h1
    have h2 : Y < X := Int.lt_of_mul_lt_mul_right h1 (Int.le_of_lt hc)
    rw [Std.compare_eq_gt.2 h2, Std.compare_eq_gt.2 h]

/-- Brought to a lower place 'K'. -/
theorem lift {s : Bool} {m j k K : Nat} {n : Int} (hK : k ≤ K) (h : sg s m * 2 ^ j = n * 2 ^ k) : sg s m * 2 ^ (K - k) * 2 ^ j = n * 2 ^ K := by
  have e : K = k + (K - k) := by omega
  rw [Int.mul_right_comm, h, Int.mul_assoc, ← Int.pow_add, ← e]

theorem base_eq (k k' : Nat) : min (-(k : Int)) (-(k' : Int)) = -((max k k' : Nat) : Int) := by omega

theorem order_val {j : Nat} {d d' : Datum} {a b : Int} (h : Val j d a) (h' : Val j d' b) : d.order d' = some (compare a b) := by
  obtain ⟨s, m, k, rfl, e⟩ := h
  obtain ⟨t, n, k', rfl, e'⟩ := h'
  simp only [Datum.order, signed_eq, base_eq]
  rw [show (-(k : Int) - -((max k k' : Nat) : Int)).toNat = max k k' - k from by omega]
  rw [show (-(k' : Int) - -((max k k' : Nat) : Int)).toNat = max k k' - k' from by omega]
  rw [compare_of (two_pow_pos j) (two_pow_pos (max k k')) (lift (Nat.le_max_left _ _) e) (lift (Nat.le_max_right _ _) e')]

theorem sum_val {j : Nat} {d d' : Datum} {a b : Int} (h : Val j d a) (h' : Val j d' b) : ∃ r, d.sum d' = some r ∧ Val j r (a + b) := by
  obtain ⟨s, m, k, rfl, e⟩ := h
  obtain ⟨t, n, k', rfl, e'⟩ := h'
  simp only [Datum.sum, signed_eq, base_eq]
  rw [show (-(k : Int) - -((max k k' : Nat) : Int)).toNat = max k k' - k from by omega]
  rw [show (-(k' : Int) - -((max k k' : Nat) : Int)).toNat = max k k' - k' from by omega]
  have l := lift (Nat.le_max_left k k') e
  have l' := lift (Nat.le_max_right k k') e'
  generalize sg s m * 2 ^ (max k k' - k) = X at *
  generalize sg t n * 2 ^ (max k k' - k') = Y at *
  refine ⟨_, rfl, _, _, max k k', rfl, ?_⟩
  have : sg (if X + Y = 0 then s && t else decide (X + Y < 0)) (X + Y).natAbs = X + Y := by
    by_cases z : X + Y = 0
    · rw [z]; simp [sg]
    · rw [if_neg z]; unfold sg; by_cases g : X + Y < 0
      · simp [g]; omega
      · simp [g]; omega
  rw [this, Int.add_mul, l, l', Int.add_mul]

theorem opposite_val {j : Nat} {d : Datum} {a : Int} (h : Val j d a) : Val j d.opposite (-a) := by
  obtain ⟨s, m, k, rfl, e⟩ := h
  refine ⟨!s, m, k, rfl, ?_⟩
  have : sg (!s) m = - sg s m := by unfold sg; cases s <;> simp
  rw [this, Int.neg_mul, e, Int.neg_mul]

theorem product_val {d d' : Datum} {a b : Int} (h : Val 0 d a) (h' : Val 0 d' b) : ∃ r, d.product d' = some r ∧ Val 0 r (a * b) := by
  obtain ⟨s, m, k, rfl, e⟩ := h
  obtain ⟨t, n, k', rfl, e'⟩ := h'
  refine ⟨_, rfl, s ^^ t, m * n, k + k', by congr 1; omega, ?_⟩
  have : sg (s ^^ t) (m * n) = sg s m * sg t n := by
    unfold sg; cases s <;> cases t <;> simp [Int.natCast_mul, Int.neg_mul, Int.mul_neg]
  rw [this]
  simp only [Int.pow_zero, Int.mul_one] at *
  rw [e, e', Int.pow_add]
  ac_rfl

theorem cut_exact (way : Toward) (neg : Bool) (x drop : Nat) (hx : x ≠ 0) (hd : 2 ^ drop ∣ x) : way.cut neg x drop = x / 2 ^ drop := by
  have h1 : 2 ^ drop ≤ x := Nat.le_of_dvd (by omega) hd
  have h2 : drop ≤ x.log2 := (Nat.le_log2 hx).2 h1
  have h3 : min drop (x.log2 + 2) = drop := by omega
  have h4 : x % 2 ^ drop = 0 := Nat.mod_eq_zero_of_dvd hd
  have h5 : 0 < 2 ^ drop := Nat.two_pow_pos _
  unfold Toward.cut
  simp only [h3, Nat.one_shiftLeft, h4]
  have h6 : ¬ (2 ^ drop < 2 * 0) := by omega
  have h7 : ¬ (2 ^ drop = 2 * 0) := by omega
  cases way <;> simp

theorem read_word (s : Bool) (e kept : Nat) (h1 : 2 ^ 52 ≤ kept) (h2 : kept < 2 ^ 53) (he : e ≤ 1074) :
    double.read (double.word s (e * 2 ^ 52 + kept)) = .number s kept ((e : Int) - 1074) := by
  have hb : double.binade = 2 ^ 52 := rfl
  have hs : double.signWeight = 2 ^ 63 := rfl
  have hi : double.infRung = 2047 * 2 ^ 52 := by decide
  have hl : double.leastPlace = -1074 := by decide
  have hr : e * 2 ^ 52 + kept < 2 ^ 63 := by omega
  have hn : (double.word s (e * 2 ^ 52 + kept) / 2 ^ 63 % 2 == 1) = s := by
    unfold Format.word; rw [hs]
    cases s
    · have : (e * 2 ^ 52 + kept) / 2 ^ 63 = 0 := by omega
      simp [this]
    · have : (2 ^ 63 + (e * 2 ^ 52 + kept)) / 2 ^ 63 = 1 := by omega
      simp only [if_pos]; rw [this]; rfl
  have hm : double.word s (e * 2 ^ 52 + kept) % 2 ^ 63 = e * 2 ^ 52 + kept := by
    unfold Format.word; rw [hs]
    cases s <;> simp only [if_pos, Bool.false_eq_true, if_false] <;> omega
  unfold Format.read
  simp only [hs, hb, hi, hl, hn, hm]
  rw [if_neg (by omega), if_pos (by omega)]
  have q1 : (e * 2 ^ 52 + kept) / 2 ^ 52 = e + 1 := by omega
  have q2 : (e * 2 ^ 52 + kept) % 2 ^ 52 = kept - 2 ^ 52 := by omega
  rw [q1, q2, show 2 ^ 52 + (kept - 2 ^ 52) = kept from by omega, show (-1074 : Int) + ((e + 1 - 1 : Nat) : Int) = (e : Int) - 1074 from by omega]

theorem read_zero (s : Bool) : double.read (double.word s 0) = .number s 0 (-1074) := by cases s <;> decide

theorem log2_bounds {m : Nat} (h : m ≠ 0) : 2 ^ m.log2 ≤ m ∧ m < 2 ^ (m.log2 + 1) := ⟨Nat.log2_self_le h, Nat.lt_log2_self⟩

theorem pow_lt_cancel {a b : Nat} (h : 2 ^ a < 2 ^ b) : a < b := (Nat.pow_lt_pow_iff_right (by decide)).1 h

/-- How the length of the magnitude stands to the place. -/
theorem log2_place {m j k N : Nat} (hm : m ≠ 0) (hN : N < 2 ^ 53) (h : m * 2 ^ j = N * 2 ^ k) : k ≤ m.log2 + j ∧ m.log2 + j < 53 + k := by
  obtain ⟨lo, hi⟩ := log2_bounds hm
  have hN0 : N ≠ 0 := by
    intro z; subst z
    have := Nat.two_pow_pos j
    have : 0 < m * 2 ^ j := Nat.mul_pos (by omega) this
    omega
  constructor
  · have a : 2 ^ k ≤ N * 2 ^ k := Nat.le_mul_of_pos_left _ (by omega)
    have b : m * 2 ^ j < 2 ^ (m.log2 + 1) * 2 ^ j := Nat.mul_lt_mul_of_pos_right hi (Nat.two_pow_pos j)
    rw [← Nat.pow_add] at b
    have := pow_lt_cancel (Nat.lt_of_le_of_lt a (h ▸ b))
    omega
  · have a : N * 2 ^ k < 2 ^ 53 * 2 ^ k := Nat.mul_lt_mul_of_pos_right hN (Nat.two_pow_pos k)
    have b : 2 ^ m.log2 * 2 ^ j ≤ m * 2 ^ j := Nat.mul_le_mul_right _ lo
    rw [← Nat.pow_add] at a b
    exact pow_lt_cancel (Nat.lt_of_le_of_lt b (h ▸ a))

/-- What is dropped is nought. -/
theorem dvd_low {m j k N : Nat} (hm : m ≠ 0) (hN : N < 2 ^ 53) (h : m * 2 ^ j = N * 2 ^ k) (hL : 52 ≤ m.log2) : 2 ^ (m.log2 - 52) ∣ m := by
  obtain ⟨p1, p2⟩ := log2_place hm hN h
  by_cases c : j ≤ k
  · have e : m = N * 2 ^ (k - j) := by
      have : m * 2 ^ j = N * 2 ^ (k - j) * 2 ^ j := by rw [h, Nat.mul_assoc, ← Nat.pow_add, show k - j + j = k from by omega]
      exact Nat.eq_of_mul_eq_mul_right (Nat.two_pow_pos j) this
    rw [e]
    have e2 : N * 2 ^ (k - j) = m := e.symm
    rw [e2]
    refine Nat.dvd_trans (Nat.pow_dvd_pow 2 (by omega : m.log2 - 52 ≤ k - j)) ?_
    rw [e]
    exact Nat.dvd_mul_left _ _
  · have : m.log2 = 52 := by omega
    rw [this]; exact ⟨m, by simp⟩

theorem nearest_val (s : Bool) (m j k : Nat) (n : Int) (hj : j ≤ 1) (hn : n.natAbs < 2 ^ 53) (h : sg s m * 2 ^ j = n * 2 ^ k) : Val j (double.read (double.nearest s m (-(k : Int)))) n := by
  have hN := mag_eq h
  unfold Format.nearest
  by_cases hm : m = 0
  · rw [if_pos hm, read_zero]
    refine ⟨s, 0, 1074, by simp, ?_⟩
    have : n.natAbs * 2 ^ k = 0 := by rw [← hN, hm]; simp
    rcases Nat.mul_eq_zero.1 this with z | z
    · have : n = 0 := by omega
      have z0 : sg s 0 = 0 := by unfold sg; cases s <;> rfl
      rw [this, z0, Int.zero_mul, Int.zero_mul]
    · have := Nat.two_pow_pos k; omega
  · rw [if_neg hm]
    obtain ⟨p1, p2⟩ := log2_place hm hn hN
    obtain ⟨lo, hi⟩ := log2_bounds hm
    have hb : double.binade = 2 ^ 52 := rfl
    have hf : double.fractionBits = 52 := rfl
    have hi' : double.infRung = 2047 * 2 ^ 52 := by decide
    have hl : double.leastPlace = -1074 := by decide
    simp only [hb, hf, hi', hl]
    have hlast : max (-(k : Int) + (m.log2 : Int) - ((52 : Nat) : Int)) (-1074) = -(k : Int) + (m.log2 : Int) - 52 := by omega
    rw [hlast]
    obtain ⟨e, he⟩ : ∃ e : Nat, (e : Int) = -(k : Int) + (m.log2 : Int) - 52 + 1074 := ⟨(-(k : Int) + (m.log2 : Int) - 52 + 1074).toNat, by omega⟩
    have he2 : e ≤ 1074 := by omega
    rw [show (-(k : Int) + (m.log2 : Int) - 52 - -1074).toNat = e from by omega]
    by_cases c : 52 ≤ m.log2
    · rw [show (-(k : Int) - (-(k : Int) + (m.log2 : Int) - 52)).toNat = 0 from by omega]
      rw [show (-(k : Int) + (m.log2 : Int) - 52 - -(k : Int)).toNat = m.log2 - 52 from by omega]
      have hd := dvd_low hm hn hN c
      rw [Nat.shiftLeft_zero, cut_exact _ _ _ _ hm hd]
      have hq : m / 2 ^ (m.log2 - 52) * 2 ^ (m.log2 - 52) = m := Nat.div_mul_cancel hd
      generalize m / 2 ^ (m.log2 - 52) = q at *
      have q1 : 2 ^ 52 ≤ q := by
        have : 2 ^ 52 * 2 ^ (m.log2 - 52) ≤ q * 2 ^ (m.log2 - 52) := by rw [hq, ← Nat.pow_add, show 52 + (m.log2 - 52) = m.log2 from by omega]; exact lo
        exact Nat.le_of_mul_le_mul_right this (Nat.two_pow_pos _)
      have q2 : q < 2 ^ 53 := by
        have : q * 2 ^ (m.log2 - 52) < 2 ^ 53 * 2 ^ (m.log2 - 52) := by rw [hq, ← Nat.pow_add, show 53 + (m.log2 - 52) = m.log2 + 1 from by omega]; exact hi
        exact Nat.lt_of_mul_lt_mul_right this
      rw [Nat.min_eq_left (by omega), read_word s e q q1 q2 he2]
      refine ⟨s, q, 1074 - e, by rw [show ((e : Int) - 1074) = -((1074 - e : Nat) : Int) from by omega], ?_⟩
      have hs : sg s m = sg s q * 2 ^ (m.log2 - 52) := by rw [← cast_two_pow, ← sg_mul, hq]
      rw [hs] at h
      have hk : k = (1074 - e) + (m.log2 - 52) := by omega
      rw [hk, Int.pow_add, ← Int.mul_assoc, Int.mul_right_comm] at h
      exact Int.eq_of_mul_eq_mul_right (Int.ne_of_gt (two_pow_pos _)) h
    · rw [show (-(k : Int) - (-(k : Int) + (m.log2 : Int) - 52)).toNat = 52 - m.log2 from by omega]
      rw [show (-(k : Int) + (m.log2 : Int) - 52 - -(k : Int)).toNat = 0 from by omega]
      have hx : m <<< (52 - m.log2) ≠ 0 := by
        rw [Nat.shiftLeft_eq]; exact Nat.mul_ne_zero hm (by have := Nat.two_pow_pos (52 - m.log2); omega)
      rw [cut_exact _ _ _ _ hx (by simp), Nat.pow_zero, Nat.div_one, Nat.shiftLeft_eq]
      have q1 : 2 ^ 52 ≤ m * 2 ^ (52 - m.log2) := by
        have : 2 ^ m.log2 * 2 ^ (52 - m.log2) ≤ m * 2 ^ (52 - m.log2) := Nat.mul_le_mul_right _ lo
        rwa [← Nat.pow_add, show m.log2 + (52 - m.log2) = 52 from by omega] at this
      have q2 : m * 2 ^ (52 - m.log2) < 2 ^ 53 := by
        have : m * 2 ^ (52 - m.log2) < 2 ^ (m.log2 + 1) * 2 ^ (52 - m.log2) := Nat.mul_lt_mul_of_pos_right hi (Nat.two_pow_pos _)
        rwa [← Nat.pow_add, show m.log2 + 1 + (52 - m.log2) = 53 from by omega] at this
      have hs : sg s (m * 2 ^ (52 - m.log2)) = sg s m * 2 ^ (52 - m.log2) := by rw [sg_mul, cast_two_pow]
      generalize m * 2 ^ (52 - m.log2) = q at *
      rw [Nat.min_eq_left (by omega), read_word s e q q1 q2 he2]
      refine ⟨s, q, 1074 - e, by rw [show ((e : Int) - 1074) = -((1074 - e : Nat) : Int) from by omega], ?_⟩
      rw [hs, Int.mul_right_comm, h, Int.mul_assoc, ← Int.pow_add]
      rw [show k + (52 - m.log2) = 1074 - e from by omega]

theorem write_val {j : Nat} {d : Datum} {n : Int} (hj : j ≤ 1) (hn : n.natAbs < 2 ^ 53) (h : Val j d n) : Val j (double.read (double.write d)) n := by
  obtain ⟨s, m, k, rfl, e⟩ := h
  exact nearest_val s m j k n hj hn e

/-- The word 'x' stands for 'n / 2 ^ j'. -/
def Fl (j x : Nat) (n : Int) : Prop := Val j (double.read x) n

theorem fl_ofInt (n : Int) (hn : n.natAbs < 2 ^ 53) : Fl 0 (floatOfInt .f64 n) n := by
  refine nearest_val (decide (n < 0)) n.natAbs 0 0 n (by omega) hn ?_
  unfold sg; by_cases g : n < 0 <;> simp [g] <;> omega

theorem fl_add {j x y : Nat} {a b : Int} (hj : j ≤ 1) (h : Fl j x a) (h' : Fl j y b) (hb : (a + b).natAbs < 2 ^ 53) : ∃ r, floatBits .add .f64 x y = some r ∧ Fl j r (a + b) := by
  obtain ⟨d, e, v⟩ := sum_val h h'
  exact ⟨double.write d, by show (((double.read x).sum (double.read y)).map double.write) = _; rw [e]; rfl, write_val hj hb v⟩

theorem fl_sub {j x y : Nat} {a b : Int} (hj : j ≤ 1) (h : Fl j x a) (h' : Fl j y b) (hb : (a - b).natAbs < 2 ^ 53) : ∃ r, floatBits .sub .f64 x y = some r ∧ Fl j r (a - b) := by
  obtain ⟨d, e, v⟩ := sum_val h (opposite_val h')
  rw [← Int.sub_eq_add_neg] at v
  exact ⟨double.write d, by show (((double.read x).sum (double.read y).opposite).map double.write) = _; rw [e]; rfl, write_val hj hb v⟩

theorem fl_mul {x y : Nat} {a b : Int} (h : Fl 0 x a) (h' : Fl 0 y b) (hb : (a * b).natAbs < 2 ^ 53) : ∃ r, floatBits .mul .f64 x y = some r ∧ Fl 0 r (a * b) := by
  obtain ⟨d, e, v⟩ := product_val h h'
  exact ⟨double.write d, by show (((double.read x).product (double.read y)).map double.write) = _; rw [e]; rfl, write_val (by omega) hb v⟩

theorem fl_order {j x y : Nat} {a b : Int} (h : Fl j x a) (h' : Fl j y b) : FloatKind.f64.format.order x y = some (compare a b) := order_val h h'

theorem fl_dbl {x : Nat} {a : Int} (h : Fl 0 x a) : Fl 1 x (2 * a) := by
  obtain ⟨s, m, k, e, v⟩ := h
  refine ⟨s, m, k, e, ?_⟩
  simp only [Int.pow_zero, Int.mul_one] at v
  rw [v, Int.pow_one]; ac_rfl

theorem fl_neg {j x : Nat} {a : Int} (h : Fl j x a) : Fl j (Op.negFloat .f64 x) (-a) := by
  have hs : double.signWeight = 2 ^ 63 := rfl
  have key : double.read (Op.negFloat .f64 x) = (double.read x).opposite := by
    have hx : Op.negFloat .f64 x = x ^^^ 2 ^ 63 := rfl
    have m1 : (x ^^^ 2 ^ 63) % 2 ^ 63 = x % 2 ^ 63 := by rw [Nat.xor_mod_two_pow]; simp
    have d1 : ((x ^^^ 2 ^ 63) / 2 ^ 63 % 2 == 1) = !(x / 2 ^ 63 % 2 == 1) := by
      rw [Nat.xor_div_two_pow]
      rw [show 2 ^ 63 / 2 ^ 63 = 1 from by decide]
      rw [show 2 = 2 ^ 1 from rfl, Nat.xor_mod_two_pow]
      rcases Nat.mod_two_eq_zero_or_one (x / (2 ^ 1) ^ 63) with c | c <;> simp [c]
    unfold Format.read
    simp only [hs, hx, m1, d1]
    split
    · rfl
    · split
      · rfl
      · split <;> rfl
  show Val j _ _
  rw [key]
  exact opposite_val h

theorem fl_toInt {x : Nat} {a : Int} (h : Fl 0 x a) (h1 : -9223372036854775808 ≤ a) (h2 : a ≤ 9223372036854775807) : floatToIntVal .f64 x .i64 = some a := by
  obtain ⟨s, m, k, e, v⟩ := h
  have hm := mag_eq v
  simp only [Int.pow_zero, Int.mul_one, Nat.pow_zero, Nat.mul_one] at v hm
  have hc : Toward.cut .zero s m k = a.natAbs := by
    by_cases z : m = 0
    · subst z
      have : a.natAbs = 0 := by
        rcases Nat.mul_eq_zero.1 hm.symm with q | q
        · exact q
        · have := Nat.two_pow_pos k; omega
      rw [this]; simp [Toward.cut]
    · rw [cut_exact _ _ _ _ z ⟨a.natAbs, by rw [hm, Nat.mul_comm]⟩, hm, Nat.mul_div_cancel _ (Nat.two_pow_pos k)]
  have hd : FloatKind.f64.decode x = .number s m (-(k : Int)) := e
  have ht : (FloatKind.f64.decode x).toInt .zero = some a := by
    rw [hd]
    simp only [Datum.toInt, Datum.integral]
    rw [show (-(k : Int)).toNat = 0 from by omega, show (- -(k : Int)).toNat = k from by omega, Nat.shiftLeft_zero, hc, signed_eq, Int.pow_zero, Int.mul_one]
    have : sg s a.natAbs * 2 ^ k = a * 2 ^ k := by
      rw [← v, hm, sg_mul, cast_two_pow]
    rw [Int.eq_of_mul_eq_mul_right (Int.ne_of_gt (two_pow_pos k)) this]
  unfold floatToIntVal
  rw [ht]
  have i1 : IntKind.i64.min = -9223372036854775808 := by decide
  have i2 : IntKind.i64.max = 9223372036854775807 := by decide
  simp only [i1, i2]
  rw [if_pos ⟨h1, h2⟩]

theorem fl_zero : Fl 0 0 0 := ⟨false, 0, 1074, by decide, by rw [show sg false 0 = 0 from rfl, Int.zero_mul, Int.zero_mul]⟩

end Go.Proofs.YtagkgejdammflaaGreat.Fl
