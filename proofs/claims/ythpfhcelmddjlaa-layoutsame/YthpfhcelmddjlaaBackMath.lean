/- Plain facts: bits that were packed are read as they were laid. -/
import Derived.Test.YthpfhcelmddjlaaRefB
namespace Go.Proofs.Ythpfhcelmddjlaa

theorem byte_test : ∀ b0 b1 b2 b3 b4 b5 b6 b7 : Bool, ∀ j : Fin 8,
    (128 * b0.toNat + 64 * b1.toNat + 32 * b2.toNat + 16 * b3.toNat + 8 * b4.toNat + 4 * b5.toNat + 2 * b6.toNat + b7.toNat).testBit (7 - j.val) = [b0, b1, b2, b3, b4, b5, b6, b7].getD j.val false := by decide +kernel

theorem byteAt_test (l : List Bool) (i j : Nat) (hj : j < 8) : (byteAt l i).testBit (7 - j) = get l (8 * i + j) := by
  unfold byteAt
  rw [byte_test _ _ _ _ _ _ _ _ ⟨j, hj⟩]
  have cases : j = 0 ∨ j = 1 ∨ j = 2 ∨ j = 3 ∨ j = 4 ∨ j = 5 ∨ j = 6 ∨ j = 7 := by omega
  rcases cases with rfl | rfl | rfl | rfl | rfl | rfl | rfl | rfl <;> rfl

theorem bitQ_pack (l : List Bool) (k : Nat) (h : k < 8 * nb l.length) : bitQ (pack l) k = get l k := by
  unfold bitQ
  have e : (pack l).getD (k / 8) 0 = byteAt l (k / 8) := by
    have hl : k / 8 < (pack l).length := by rw [pack_length]; omega
    have h2 : (pack l).getD (k / 8) 0 = (pack l)[k / 8] := by simp [List.getD, hl]
    rw [h2]; unfold pack; exact packTo_get _ _ _ _
  rw [e, byteAt_test l (k / 8) (k % 8) (Nat.mod_lt _ (by decide)), show 8 * (k / 8) + k % 8 = k from by omega]

theorem pack_small (l : List Bool) : ∀ x ∈ pack l, x < 256 := by
  intro x hx
  unfold pack packTo at hx
  rw [List.mem_map] at hx
  obtain ⟨i, _, rfl⟩ := hx
  exact byteAt_lt l i

theorem len_nb (n : Nat) : n ≤ 8 * nb n ∧ 8 * nb n < n + 8 := by unfold nb; omega

end Go.Proofs.Ythpfhcelmddjlaa
