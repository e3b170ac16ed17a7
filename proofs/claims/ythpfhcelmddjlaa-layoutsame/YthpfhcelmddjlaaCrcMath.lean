/- Plain facts on sums of sixteen bits: the register, bit by bit; what one run of turned bits does to it. No program. -/
import Derived.Laws.BitsAllLaws
namespace Go.Proofs.Ythpfhcelmddjlaa

/-- One bit goes into the register. -/
def bitStep (r : Nat) (b : Bool) : Nat := if r.testBit 0 != b then (r / 2) ^^^ 40961 else r / 2

/-- The first 'k' bits of 'x' go into it, the lowest first. -/
def bitsStep (r x : Nat) : Nat → Nat
  | 0 => r
  | k + 1 => bitStep (bitsStep r x k) (x.testBit k)

def reg (q : List Nat) : Nat := q.foldl (fun r x => bitsStep r x 8) 65535
def sumOf (q : List Nat) : Nat := 65535 - reg q

theorem bitStep_lt {r : Nat} (h : r < 65536) (b : Bool) : bitStep r b < 65536 := by
  unfold bitStep
  split
  · exact Nat.xor_lt_two_pow (n := 16) (by omega) (by omega)
  · omega

theorem bitsStep_lt {r : Nat} (h : r < 65536) (x k : Nat) : bitsStep r x k < 65536 := by
  induction k with
  | zero => exact h
  | succ k ih => exact bitStep_lt ih _

theorem foldl_lt (q : List Nat) : ∀ r, r < 65536 → q.foldl (fun r x => bitsStep r x 8) r < 65536 := by
  induction q with
  | nil => intro r h; exact h
  | cons x q ih => intro r h; exact ih _ (bitsStep_lt h x 8)

theorem reg_lt (q : List Nat) : reg q < 65536 := foldl_lt q _ (by omega)
theorem sumOf_lt (q : List Nat) : sumOf q < 65536 := by unfold sumOf; omega

theorem reg_snoc (q : List Nat) (x : Nat) : reg (q ++ [x]) = bitsStep (reg q) x 8 := by
  unfold reg; rw [List.foldl_append]; rfl

theorem reg_take_succ (q : List Nat) (i : Nat) (h : i < q.length) : reg (q.take (i + 1)) = bitsStep (reg (q.take i)) q[i] 8 := by
  rw [List.take_succ_eq_append_getElem h, reg_snoc]

/-- With its sum behind, the lower byte first. -/
def closed (q : List Nat) : List Nat := q ++ [sumOf q % 256, sumOf q / 256]

theorem closed_length (q : List Nat) : (closed q).length = q.length + 2 := by simp [closed]
theorem closed_small {q : List Nat} (h : ∀ x ∈ q, x < 256) : ∀ x ∈ closed q, x < 256 := by
  intro x hx
  have := sumOf_lt q
  simp only [closed, List.mem_append, List.mem_cons, List.not_mem_nil, or_false] at hx
  rcases hx with hx | rfl | rfl
  · exact h x hx
  · omega
  · omega

theorem shift_bit (n k : Nat) : n / 2 ^ k / 2 = n / 2 ^ (k + 1) := by rw [Nat.div_div_eq_div_mul, Nat.pow_succ]
theorem low_bit (n k : Nat) : (n / 2 ^ k).testBit 0 = n.testBit k := by
  rw [← Nat.shiftRight_eq_div_pow, Nat.testBit_shiftRight, Nat.add_zero]

/-- What is taken, in numbers. -/
theorem taken_bit (r x : Nat) : (r.testBit 0 != x.testBit 0) = (r ^^^ x).testBit 0 := by
  rw [Nat.testBit_xor]
theorem taken_num (r x : Nat) : ((r ^^^ x) &&& 1 = 1) ↔ (r.testBit 0 != x.testBit 0) = true := by
  rw [taken_bit, Nat.and_one_is_mod, Nat.testBit_zero]; simp
theorem taken_no (r x : Nat) : ((r ^^^ x) &&& 1 = 0) ↔ (r.testBit 0 != x.testBit 0) = false := by
  rw [taken_bit, Nat.and_one_is_mod, Nat.testBit_zero]
  have : (r ^^^ x) % 2 = 0 ∨ (r ^^^ x) % 2 = 1 := by omega
  rcases this with h | h <;> simp [h]

theorem xor_div_two (a b : Nat) : (a ^^^ b) / 2 = a / 2 ^^^ b / 2 := by
  apply Nat.eq_of_testBit_eq
  intro i
  rw [Nat.testBit_xor, Nat.testBit_div_two, Nat.testBit_div_two, Nat.testBit_div_two, Nat.testBit_xor]

/-- The register is linear. -/
theorem bitStep_xor (r s : Nat) (b c : Bool) : bitStep (r ^^^ s) (b != c) = bitStep r b ^^^ bitStep s c := by
  unfold bitStep
  rw [Nat.testBit_xor, xor_div_two]
  generalize r.testBit 0 = u
  generalize s.testBit 0 = v
  generalize r / 2 = R
  generalize s / 2 = S
  apply Nat.eq_of_testBit_eq
  intro i
  cases u <;> cases v <;> cases b <;> cases c <;> simp [Nat.testBit_xor] <;> cases R.testBit i <;> cases S.testBit i <;> cases (40961 : Nat).testBit i <;> rfl

/-- A register that is not 0 never gets 0 by noughts. -/
theorem bitStep_pos {r : Nat} (h : r < 65536) (h0 : r ≠ 0) : bitStep r false ≠ 0 := by
  unfold bitStep
  intro e
  split at e
  · rename_i ht
    have h15 : ((r / 2) ^^^ 40961).testBit 15 = true := by
      rw [Nat.testBit_xor, Nat.testBit_lt_two_pow (x := r / 2) (i := 15) (by omega)]; decide
    rw [e] at h15
    simp at h15
  · rename_i ht
    have : r.testBit 0 = false := by simpa using ht
    rw [Nat.testBit_zero] at this
    have : r % 2 = 0 := by
      have h2 : r % 2 = 0 ∨ r % 2 = 1 := by omega
      rcases h2 with c | c
      · exact c
      · rw [c] at this; simp at this
    omega

/-- Bits told by a function go into it. -/
def fr (r : Nat) (f : Nat → Bool) : Nat → Nat
  | 0 => r
  | m + 1 => bitStep (fr r f m) (f m)

theorem fr_lt {r : Nat} (h : r < 65536) (f : Nat → Bool) (m : Nat) : fr r f m < 65536 := by
  induction m with
  | zero => exact h
  | succ m ih => exact bitStep_lt ih _

theorem fr_xor (r s : Nat) (f g : Nat → Bool) (m : Nat) : fr (r ^^^ s) (fun j => f j != g j) m = fr r f m ^^^ fr s g m := by
  induction m with
  | zero => rfl
  | succ m ih => show bitStep (fr _ _ m) _ = _; rw [ih, bitStep_xor]; rfl

theorem fr_congr {r : Nat} {f g : Nat → Bool} {m : Nat} (h : ∀ j, j < m → f j = g j) : fr r f m = fr r g m := by
  induction m with
  | zero => rfl
  | succ m ih => show bitStep _ _ = bitStep _ _; rw [ih fun j hj => h j (by omega), h m (by omega)]

theorem fr_add (r : Nat) (f : Nat → Bool) (a m : Nat) : fr r f (a + m) = fr (fr r f a) (fun j => f (a + j)) m := by
  induction m with
  | zero => rfl
  | succ m ih => show bitStep (fr r f (a + m)) _ = _; rw [ih]; rfl

theorem fr_zero {f : Nat → Bool} {m : Nat} (h : ∀ j, j < m → f j = false) : fr 0 f m = 0 := by
  induction m with
  | zero => rfl
  | succ m ih => show bitStep _ _ = 0; rw [ih fun j hj => h j (by omega), h m (by omega)]; decide

theorem bitsStep_fr (r x k : Nat) : bitsStep r x k = fr r (fun j => x.testBit j) k := by
  induction k with
  | zero => rfl
  | succ k ih => show bitStep _ _ = bitStep _ _; rw [ih]

/-- Bit 'j' of bytes: of each byte the lowest first. -/
def bitL (q : List Nat) (j : Nat) : Bool := (q.getD (j / 8) 0).testBit (j % 8)

theorem reg_fr (q : List Nat) : ∀ m, m ≤ q.length → reg (q.take m) = fr 65535 (bitL q) (8 * m) := by
  intro m
  induction m with
  | zero => intro _; simp [reg, fr]
  | succ m ih =>
    intro h
    rw [reg_take_succ q m (by omega), ih (by omega), show 8 * (m + 1) = 8 * m + 8 from by omega, fr_add, bitsStep_fr]
    apply fr_congr
    intro j hj
    unfold bitL
    rw [show (8 * m + j) / 8 = m from by omega, show (8 * m + j) % 8 = j from by omega]
    simp [List.getD, show m < q.length by omega]

/-- The bits that a run turns. -/
def turned (k run : Nat) (j : Nat) : Bool := decide (k ≤ j) && run.testBit (j - k)

def zeros (run : Nat) : Nat → Nat
  | 0 => run
  | d + 1 => bitStep (zeros run d) false

theorem zeros_pos {run : Nat} (h : run < 65536) (h0 : run ≠ 0) (d : Nat) : zeros run d < 65536 ∧ zeros run d ≠ 0 := by
  induction d with
  | zero => exact ⟨h, h0⟩
  | succ d ih => exact ⟨bitStep_lt ih.1 _, bitStep_pos ih.1 ih.2⟩

theorem run_zeros (k run d : Nat) : fr 0 (turned k run) (k + d) ^^^ (run / 2 ^ d) = zeros run d := by
  induction d with
  | zero =>
    rw [Nat.add_zero, fr_zero (fun j hj => by unfold turned; simp; omega)]
    simp [zeros]
  | succ d ih =>
    show bitStep (fr 0 (turned k run) (k + d)) (turned k run (k + d)) ^^^ _ = bitStep (zeros run d) false
    rw [← ih]
    have e : turned k run (k + d) = run.testBit d := by unfold turned; simp
    rw [e]
    have h := bitStep_xor (fr 0 (turned k run) (k + d)) (run / 2 ^ d) (run.testBit d) (run.testBit d)
    rw [show (run.testBit d != run.testBit d) = false from by simp] at h
    rw [h]
    have e2 : bitStep (run / 2 ^ d) (run.testBit d) = run / 2 ^ (d + 1) := by
      unfold bitStep; rw [low_bit, shift_bit]; simp
    rw [e2]

theorem bitL_closed_hi (q : List Nat) (i : Nat) (h : i < 16) : bitL (closed q) (8 * q.length + i) = (sumOf q).testBit i := by
  unfold bitL closed
  by_cases c : i < 8
  · rw [show (8 * q.length + i) / 8 = q.length from by omega, show (8 * q.length + i) % 8 = i from by omega]
    rw [show (q ++ [sumOf q % 256, sumOf q / 256]).getD q.length 0 = sumOf q % 256 from by simp [List.getD]]
    rw [show (256 : Nat) = 2 ^ 8 from by decide, Nat.testBit_mod_two_pow]
    simp [c]
  · rw [show (8 * q.length + i) / 8 = q.length + 1 from by omega, show (8 * q.length + i) % 8 = i - 8 from by omega]
    rw [show (q ++ [sumOf q % 256, sumOf q / 256]).getD (q.length + 1) 0 = sumOf q / 256 from by simp [List.getD]]
    rw [show (256 : Nat) = 2 ^ 8 from by decide, ← Nat.shiftRight_eq_div_pow, Nat.testBit_shiftRight, show 8 + (i - 8) = i from by omega]

theorem bitL_closed_lo (q : List Nat) (j : Nat) (h : j < 8 * q.length) : bitL (closed q) j = bitL q j := by
  unfold bitL closed
  have : j / 8 < q.length := by omega
  simp [List.getD, List.getElem?_append, this]

/-- The last two bytes, as a number. -/
def tailNum (q : List Nat) : Nat := q.getD (q.length - 2) 0 + 256 * q.getD (q.length - 1) 0

theorem tailNum_bit (q : List Nat) (hq : ∀ x ∈ q, x < 256) (h : 2 ≤ q.length) (i : Nat) (hi : i < 16) : (tailNum q).testBit i = bitL q (8 * (q.length - 2) + i) := by
  have h1 : q.getD (q.length - 2) 0 < 2 ^ 8 := by
    simp only [List.getD, List.getElem?_eq_getElem (show q.length - 2 < q.length by omega), Option.getD_some]
    exact hq _ (List.getElem_mem _)
  unfold tailNum bitL
  rw [Nat.add_comm, show (256 : Nat) = 2 ^ 8 from by decide, Nat.testBit_two_pow_mul_add _ h1]
  by_cases c : i < 8
  · rw [if_pos c, show (8 * (q.length - 2) + i) / 8 = q.length - 2 from by omega, show (8 * (q.length - 2) + i) % 8 = i from by omega]
  · rw [if_neg c, show (8 * (q.length - 2) + i) / 8 = q.length - 1 from by omega, show (8 * (q.length - 2) + i) % 8 = i - 8 from by omega]

theorem sum_bit {r : Nat} (h : r < 65536) (i : Nat) (hi : i < 16) : (65535 - r).testBit i = !r.testBit i := by
  have := Nat.testBit_two_pow_sub_succ (x := r) (n := 16) (by omega) i
  rw [show 2 ^ 16 - (r + 1) = 65535 - r from by omega] at this
  rw [this]; simp [hi]

/-- A run that is turned is shown. -/
theorem shows (p q : List Nat) (k run : Nat) (hq : ∀ x ∈ q, x < 256) (hl : q.length = p.length + 2) (hr : run < 65536) (hodd : run % 2 = 1) (hk : k < 8 * q.length)
    (hb : ∀ j, j < 8 * q.length → bitL q j = (bitL (closed p) j != turned k run j)) : sumOf (q.take (q.length - 2)) ≠ tailNum q := by
  intro e
  have hn : q.length - 2 = p.length := by omega
  have hreg : reg (q.take (q.length - 2)) = reg p ^^^ fr 0 (turned k run) (8 * p.length) := by
    rw [hn, reg_fr q p.length (by omega)]
    have h1 : fr 65535 (bitL q) (8 * p.length) = fr (65535 ^^^ 0) (fun j => bitL p j != turned k run j) (8 * p.length) := by
      rw [Nat.xor_zero]
      apply fr_congr
      intro j hj
      rw [hb j (by omega), bitL_closed_lo p j hj]
    have h2 := reg_fr p p.length (Nat.le_refl _)
    rw [List.take_length] at h2
    rw [h1, fr_xor, ← h2]
  have hlt := reg_lt (q.take (q.length - 2))
  have key : ∀ i, i < 16 → (fr 0 (turned k run) (8 * p.length)).testBit i = turned k run (8 * p.length + i) := by
    intro i hi
    have e1 : (sumOf (q.take (q.length - 2))).testBit i = (tailNum q).testBit i := by rw [e]
    rw [tailNum_bit q hq (by omega) i hi, hn, hb _ (by omega), bitL_closed_hi p i hi] at e1
    have e2 := sum_bit hlt i hi
    have e3 := sum_bit (reg_lt p) i hi
    unfold sumOf at e1
    rw [hreg] at e2
    rw [hn] at hreg
    rw [hreg, e2, e3, Nat.testBit_xor] at e1
    revert e1
    generalize (reg p).testBit i = x
    generalize (fr 0 (turned k run) (8 * p.length)).testBit i = y
    generalize turned k run (8 * p.length + i) = z
    cases x <;> cases y <;> cases z <;> simp
  by_cases c : k < 8 * p.length
  · obtain ⟨d, hd⟩ : ∃ d, 8 * p.length = k + d := ⟨8 * p.length - k, by omega⟩
    have hz := run_zeros k run d
    rw [← hd] at hz
    have hp := (zeros_pos hr (by omega) d).2
    apply hp
    rw [← hz]
    apply Nat.eq_of_testBit_eq
    intro i
    rw [Nat.testBit_xor, Nat.zero_testBit]
    have e4 : (run / 2 ^ d).testBit i = run.testBit (d + i) := by rw [← Nat.shiftRight_eq_div_pow, Nat.testBit_shiftRight]
    rw [e4]
    by_cases ci : i < 16
    · rw [key i ci]
      unfold turned
      rw [show 8 * p.length + i - k = d + i from by omega]
      simp [show k ≤ 8 * p.length + i by omega]
    · rw [Nat.testBit_lt_two_pow (x := fr 0 (turned k run) (8 * p.length)) (i := i) (Nat.lt_of_lt_of_le (fr_lt (by omega) _ _) (Nat.le_trans (by decide : 65536 ≤ 2 ^ 16) (Nat.pow_le_pow_right (by decide) (by omega)))),
        Nat.testBit_lt_two_pow (x := run) (i := d + i) (Nat.lt_of_lt_of_le hr (Nat.le_trans (by decide : 65536 ≤ 2 ^ 16) (Nat.pow_le_pow_right (by decide) (by omega))))]
      rfl
  · have h0 := key (k - 8 * p.length) (by omega)
    rw [fr_zero (fun j hj => by unfold turned; simp; omega), Nat.zero_testBit, show 8 * p.length + (k - 8 * p.length) = k from by omega] at h0
    unfold turned at h0
    rw [Nat.sub_self, Nat.testBit_zero] at h0
    simp [hodd] at h0

end Go.Proofs.Ythpfhcelmddjlaa
