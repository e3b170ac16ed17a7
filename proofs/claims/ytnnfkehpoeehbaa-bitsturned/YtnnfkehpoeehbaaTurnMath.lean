/- Plain facts: one bit that is turned is another number, of that place alone. -/
import Derived.Test.YtnnfkehpoeehbaaBackMath
namespace Go.Proofs.Ytnnfkehpoeehbaa
open Go.RowKit

/-- The list with one bit turned. -/
def flip (l : List Bool) (k : Nat) : List Bool := l.set k (!(get l k))

theorem flip_length (l : List Bool) (k : Nat) : (flip l k).length = l.length := by simp [flip]

theorem get_flip_ne (l : List Bool) (k i : Nat) (h : i ≠ k) : get (flip l k) i = get l i := by
  unfold flip
  unfold get
  simp only [List.getD_eq_getElem?_getD]
  rw [List.getElem?_set_ne (by omega)]

theorem get_flip_eq (l : List Bool) (k : Nat) (h : k < l.length) : get (flip l k) k = !(get l k) := by
  unfold flip
  conv => lhs; unfold get
  rw [List.getD_eq_getElem?_getD, List.getElem?_set_self h]
  rfl

theorem byteAt_flip_ne (l : List Bool) (k i : Nat) (h : i ≠ k / 8) : byteAt (flip l k) i = byteAt l i :=
  byteAt_congr fun j _ _ => get_flip_ne l k j (by omega)

theorem xor0 : ∀ b0 b1 b2 b3 b4 b5 b6 b7 : Bool, (128 * b0.toNat + 64 * b1.toNat + 32 * b2.toNat + 16 * b3.toNat + 8 * b4.toNat + 4 * b5.toNat + 2 * b6.toNat + b7.toNat) ^^^ (128 * (!b0).toNat + 64 * b1.toNat + 32 * b2.toNat + 16 * b3.toNat + 8 * b4.toNat + 4 * b5.toNat + 2 * b6.toNat + b7.toNat) = 128 := by decide +kernel
theorem xor1 : ∀ b0 b1 b2 b3 b4 b5 b6 b7 : Bool, (128 * b0.toNat + 64 * b1.toNat + 32 * b2.toNat + 16 * b3.toNat + 8 * b4.toNat + 4 * b5.toNat + 2 * b6.toNat + b7.toNat) ^^^ (128 * b0.toNat + 64 * (!b1).toNat + 32 * b2.toNat + 16 * b3.toNat + 8 * b4.toNat + 4 * b5.toNat + 2 * b6.toNat + b7.toNat) = 64 := by decide +kernel
theorem xor2 : ∀ b0 b1 b2 b3 b4 b5 b6 b7 : Bool, (128 * b0.toNat + 64 * b1.toNat + 32 * b2.toNat + 16 * b3.toNat + 8 * b4.toNat + 4 * b5.toNat + 2 * b6.toNat + b7.toNat) ^^^ (128 * b0.toNat + 64 * b1.toNat + 32 * (!b2).toNat + 16 * b3.toNat + 8 * b4.toNat + 4 * b5.toNat + 2 * b6.toNat + b7.toNat) = 32 := by decide +kernel
theorem xor3 : ∀ b0 b1 b2 b3 b4 b5 b6 b7 : Bool, (128 * b0.toNat + 64 * b1.toNat + 32 * b2.toNat + 16 * b3.toNat + 8 * b4.toNat + 4 * b5.toNat + 2 * b6.toNat + b7.toNat) ^^^ (128 * b0.toNat + 64 * b1.toNat + 32 * b2.toNat + 16 * (!b3).toNat + 8 * b4.toNat + 4 * b5.toNat + 2 * b6.toNat + b7.toNat) = 16 := by decide +kernel
theorem xor4 : ∀ b0 b1 b2 b3 b4 b5 b6 b7 : Bool, (128 * b0.toNat + 64 * b1.toNat + 32 * b2.toNat + 16 * b3.toNat + 8 * b4.toNat + 4 * b5.toNat + 2 * b6.toNat + b7.toNat) ^^^ (128 * b0.toNat + 64 * b1.toNat + 32 * b2.toNat + 16 * b3.toNat + 8 * (!b4).toNat + 4 * b5.toNat + 2 * b6.toNat + b7.toNat) = 8 := by decide +kernel
theorem xor5 : ∀ b0 b1 b2 b3 b4 b5 b6 b7 : Bool, (128 * b0.toNat + 64 * b1.toNat + 32 * b2.toNat + 16 * b3.toNat + 8 * b4.toNat + 4 * b5.toNat + 2 * b6.toNat + b7.toNat) ^^^ (128 * b0.toNat + 64 * b1.toNat + 32 * b2.toNat + 16 * b3.toNat + 8 * b4.toNat + 4 * (!b5).toNat + 2 * b6.toNat + b7.toNat) = 4 := by decide +kernel
theorem xor6 : ∀ b0 b1 b2 b3 b4 b5 b6 b7 : Bool, (128 * b0.toNat + 64 * b1.toNat + 32 * b2.toNat + 16 * b3.toNat + 8 * b4.toNat + 4 * b5.toNat + 2 * b6.toNat + b7.toNat) ^^^ (128 * b0.toNat + 64 * b1.toNat + 32 * b2.toNat + 16 * b3.toNat + 8 * b4.toNat + 4 * b5.toNat + 2 * (!b6).toNat + b7.toNat) = 2 := by decide +kernel
theorem xor7 : ∀ b0 b1 b2 b3 b4 b5 b6 b7 : Bool, (128 * b0.toNat + 64 * b1.toNat + 32 * b2.toNat + 16 * b3.toNat + 8 * b4.toNat + 4 * b5.toNat + 2 * b6.toNat + b7.toNat) ^^^ (128 * b0.toNat + 64 * b1.toNat + 32 * b2.toNat + 16 * b3.toNat + 8 * b4.toNat + 4 * b5.toNat + 2 * b6.toNat + (!b7).toNat) = 1 := by decide +kernel

theorem byteAt_flip (l : List Bool) (k : Nat) (h : k < l.length) : byteAt l (k / 8) ^^^ byteAt (flip l k) (k / 8) = 2 ^ (7 - k % 8) := by
  obtain ⟨m, j, hj, rfl⟩ : ∃ m j, j < 8 ∧ k = 8 * m + j := ⟨k / 8, k % 8, by omega, by omega⟩
  rw [show (8 * m + j) / 8 = m from by omega, show (8 * m + j) % 8 = j from by omega]
  have cases : j = 0 ∨ j = 1 ∨ j = 2 ∨ j = 3 ∨ j = 4 ∨ j = 5 ∨ j = 6 ∨ j = 7 := by omega
  unfold byteAt
  rcases cases with rfl | rfl | rfl | rfl | rfl | rfl | rfl | rfl
  · simp only [Nat.add_zero] at h ⊢
    rw [get_flip_eq l _ h, get_flip_ne l _ (8 * m + 1) (by omega), get_flip_ne l _ (8 * m + 2) (by omega), get_flip_ne l _ (8 * m + 3) (by omega), get_flip_ne l _ (8 * m + 4) (by omega), get_flip_ne l _ (8 * m + 5) (by omega), get_flip_ne l _ (8 * m + 6) (by omega), get_flip_ne l _ (8 * m + 7) (by omega)]
    exact xor0 _ _ _ _ _ _ _ _
  · rw [get_flip_eq l _ h, get_flip_ne l _ (8 * m) (by omega), get_flip_ne l _ (8 * m + 2) (by omega), get_flip_ne l _ (8 * m + 3) (by omega), get_flip_ne l _ (8 * m + 4) (by omega), get_flip_ne l _ (8 * m + 5) (by omega), get_flip_ne l _ (8 * m + 6) (by omega), get_flip_ne l _ (8 * m + 7) (by omega)]
    exact xor1 _ _ _ _ _ _ _ _
  · rw [get_flip_eq l _ h, get_flip_ne l _ (8 * m) (by omega), get_flip_ne l _ (8 * m + 1) (by omega), get_flip_ne l _ (8 * m + 3) (by omega), get_flip_ne l _ (8 * m + 4) (by omega), get_flip_ne l _ (8 * m + 5) (by omega), get_flip_ne l _ (8 * m + 6) (by omega), get_flip_ne l _ (8 * m + 7) (by omega)]
    exact xor2 _ _ _ _ _ _ _ _
  · rw [get_flip_eq l _ h, get_flip_ne l _ (8 * m) (by omega), get_flip_ne l _ (8 * m + 1) (by omega), get_flip_ne l _ (8 * m + 2) (by omega), get_flip_ne l _ (8 * m + 4) (by omega), get_flip_ne l _ (8 * m + 5) (by omega), get_flip_ne l _ (8 * m + 6) (by omega), get_flip_ne l _ (8 * m + 7) (by omega)]
    exact xor3 _ _ _ _ _ _ _ _
  · rw [get_flip_eq l _ h, get_flip_ne l _ (8 * m) (by omega), get_flip_ne l _ (8 * m + 1) (by omega), get_flip_ne l _ (8 * m + 2) (by omega), get_flip_ne l _ (8 * m + 3) (by omega), get_flip_ne l _ (8 * m + 5) (by omega), get_flip_ne l _ (8 * m + 6) (by omega), get_flip_ne l _ (8 * m + 7) (by omega)]
    exact xor4 _ _ _ _ _ _ _ _
  · rw [get_flip_eq l _ h, get_flip_ne l _ (8 * m) (by omega), get_flip_ne l _ (8 * m + 1) (by omega), get_flip_ne l _ (8 * m + 2) (by omega), get_flip_ne l _ (8 * m + 3) (by omega), get_flip_ne l _ (8 * m + 4) (by omega), get_flip_ne l _ (8 * m + 6) (by omega), get_flip_ne l _ (8 * m + 7) (by omega)]
    exact xor5 _ _ _ _ _ _ _ _
  · rw [get_flip_eq l _ h, get_flip_ne l _ (8 * m) (by omega), get_flip_ne l _ (8 * m + 1) (by omega), get_flip_ne l _ (8 * m + 2) (by omega), get_flip_ne l _ (8 * m + 3) (by omega), get_flip_ne l _ (8 * m + 4) (by omega), get_flip_ne l _ (8 * m + 5) (by omega), get_flip_ne l _ (8 * m + 7) (by omega)]
    exact xor6 _ _ _ _ _ _ _ _
  · rw [get_flip_eq l _ h, get_flip_ne l _ (8 * m) (by omega), get_flip_ne l _ (8 * m + 1) (by omega), get_flip_ne l _ (8 * m + 2) (by omega), get_flip_ne l _ (8 * m + 3) (by omega), get_flip_ne l _ (8 * m + 4) (by omega), get_flip_ne l _ (8 * m + 5) (by omega), get_flip_ne l _ (8 * m + 6) (by omega)]
    exact xor7 _ _ _ _ _ _ _ _

theorem byteAt_flip_other (l : List Bool) (k : Nat) (h : k < l.length) : byteAt l (k / 8) ≠ byteAt (flip l k) (k / 8) := by
  intro e
  have hx := byteAt_flip l k h
  rw [← e, Nat.xor_self] at hx
  have := Nat.two_pow_pos (7 - k % 8)
  omega

theorem cvals_set (l : List Bool) (k : Nat) : (cvals l).set k (.bool (!(get l k))) = cvals (flip l k) := by
  unfold cvals flip; rw [List.map_set]

end Go.Proofs.Ytnnfkehpoeehbaa
