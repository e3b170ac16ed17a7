/- Plain facts on turning one bit of bytes. No program. -/
import Derived.Test.YthpfhcelmddjlaaCrcMath
namespace Go.Proofs.Ythpfhcelmddjlaa

theorem pow_bit (b i : Nat) : (2 ^ b).testBit i = decide (i = b) := by
  rw [Nat.testBit_two_pow]; simp [eq_comm]

/-- One bit of a byte in the row is turned. -/
theorem bitL_set (l : List Nat) (a b j : Nat) (ha : a < l.length) (hb : b < 8) : bitL (l.set a (l[a] ^^^ 2 ^ b)) j = (bitL l j != decide (j = 8 * a + b)) := by
  unfold bitL
  by_cases c : j / 8 = a
  · rw [show (l.set a (l[a] ^^^ 2 ^ b)).getD (j / 8) 0 = l[a] ^^^ 2 ^ b from by simp [List.getD, c, ha], show l.getD (j / 8) 0 = l[a] from by simp [List.getD, c, ha], Nat.testBit_xor, pow_bit]
    congr 1
    rw [decide_eq_decide]; omega
  · rw [show (l.set a (l[a] ^^^ 2 ^ b)).getD (j / 8) 0 = l.getD (j / 8) 0 from by simp [List.getD, show ¬ a = j / 8 from fun e => c e.symm], show decide (j = 8 * a + b) = false from by simp; omega]
    simp

theorem xor_pow (x b : Nat) (hx : x < 256) (hb : b < 8) : bits BinOp.xor IntKind.u8 (x : Int) (IntKind.u8.wrap (2 ^ b)) = ((x ^^^ 2 ^ b : Nat) : Int) := by
  have h : 2 ^ b < 256 := Nat.lt_of_lt_of_le (Nat.pow_lt_pow_right (by decide) hb) (by decide)
  have e : IntKind.u8.wrap (2 ^ b) = ((2 ^ b : Nat) : Int) := by
    rw [IntKind.wrap_u8', show (2 : Int) ^ b = ((2 ^ b : Nat) : Int) from by simp]
    generalize 2 ^ b = z at *
    omega
  rw [e, u8_xor_nat x (2 ^ b) hx h]

/-- The first 'i' places of a run that is turned. -/
def part (k run i j : Nat) : Bool := decide (k ≤ j) && decide (j < k + i) && run.testBit (j - k)

/-- What the bytes are when 'i' places of the run have been looked at. -/
structure Flipped (p l : List Nat) (k run i : Nat) : Prop where
  size : l.length = p.length
  small : ∀ x ∈ l, x < 256
  bit : ∀ j, j < 8 * p.length → bitL l j = (bitL p j != part k run i j)

theorem Flipped.start {p : List Nat} (h : ∀ x ∈ p, x < 256) (k run : Nat) : Flipped p p k run 0 :=
  ⟨rfl, h, fun j _ => by
    unfold part
    by_cases c : k ≤ j
    · simp [c, show ¬ j < k by omega]
    · simp [c]⟩

theorem Flipped.same {p l : List Nat} {k run i : Nat} (h : Flipped p l k run i) (hs : run.testBit i = false ∨ 8 * p.length ≤ k + i) : Flipped p l k run (i + 1) := by
  refine ⟨h.size, h.small, fun j hj => ?_⟩
  rw [h.bit j hj]
  congr 1
  unfold part
  by_cases c : j = k + i
  · subst c
    rcases hs with hs | hs
    · simp [hs]
    · omega
  · have : decide (j < k + i) = decide (j < k + (i + 1)) := by rw [decide_eq_decide]; omega
    rw [this]

theorem Flipped.turn {p l : List Nat} {k run i : Nat} (h : Flipped p l k run i) (hs : run.testBit i = true) (hlt : (k + i) / 8 < l.length) : Flipped p (l.set ((k + i) / 8) (l[(k + i) / 8] ^^^ 2 ^ ((k + i) % 8))) k run (i + 1) := by
  refine ⟨by rw [List.length_set]; exact h.size, ?_, fun j hj => ?_⟩
  · intro x hx
    rcases List.mem_or_eq_of_mem_set hx with hx | rfl
    · exact h.small x hx
    · refine Nat.xor_lt_two_pow (n := 8) (h.small _ (List.getElem_mem _)) ?_
      exact Nat.pow_lt_pow_right (by decide) (Nat.mod_lt _ (by decide))
  · rw [bitL_set l _ _ j hlt (Nat.mod_lt _ (by decide)), h.bit j hj, show 8 * ((k + i) / 8) + (k + i) % 8 = k + i from Nat.div_add_mod _ _]
    unfold part
    by_cases c : j = k + i
    · subst c
      simp [hs]
    · have : decide (j < k + i) = decide (j < k + (i + 1)) := by rw [decide_eq_decide]; omega
      rw [this]; simp [c]

theorem Flipped.shown {p l : List Nat} {k run : Nat} (h : Flipped (closed p) l k run 16) (hr : run < 65536) (hodd : run % 2 = 1) (hk : k < 8 * (p.length + 2)) : sumOf (l.take (l.length - 2)) ≠ tailNum l := by
  have hl : l.length = p.length + 2 := by rw [h.size, closed_length]
  refine shows p l k run h.small hl hr hodd (by omega) fun j hj => ?_
  rw [h.bit j (by rw [closed_length]; omega)]
  congr 1
  unfold part turned
  by_cases c : k ≤ j
  · by_cases c2 : j < k + 16
    · simp [c2]
    · rw [Nat.testBit_lt_two_pow (x := run) (i := j - k) (Nat.lt_of_lt_of_le hr (Nat.le_trans (by decide : 65536 ≤ 2 ^ 16) (Nat.pow_le_pow_right (by decide) (by omega))))]
      simp
  · simp [c]

end Go.Proofs.Ythpfhcelmddjlaa
