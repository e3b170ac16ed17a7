/- Plain facts: bits that were packed are read as they were laid. -/
import Derived.Test.YtnnfkehpoeehbaaItems
namespace Go.Proofs.Ytnnfkehpoeehbaa

theorem byte_test : ∀ b0 b1 b2 b3 b4 b5 b6 b7 : Bool, ∀ j : Fin 8,
    (128 * b0.toNat + 64 * b1.toNat + 32 * b2.toNat + 16 * b3.toNat + 8 * b4.toNat + 4 * b5.toNat + 2 * b6.toNat + b7.toNat).testBit (7 - j.val) = [b0, b1, b2, b3, b4, b5, b6, b7].getD j.val false := by decide +kernel

theorem byteAt_test (l : List Bool) (i j : Nat) (hj : j < 8) : (byteAt l i).testBit (7 - j) = get l (8 * i + j) := by
  unfold byteAt
  rw [byte_test _ _ _ _ _ _ _ _ ⟨j, hj⟩]
  have cases : j = 0 ∨ j = 1 ∨ j = 2 ∨ j = 3 ∨ j = 4 ∨ j = 5 ∨ j = 6 ∨ j = 7 := by omega
  rcases cases with rfl | rfl | rfl | rfl | rfl | rfl | rfl | rfl <;> rfl

theorem bitQ_pack (l : List Bool) (k : Nat) (h : k < 8 * nb l.length) : bitQ (pack l) k = get l k := by
  unfold bitQ
  have e : (pack l).getD (k / 8) 0 = byteAt l (k / 8) := by
    have hl : k / 8 < (pack l).length := by rw [pack_length]; omega
    have h2 : (pack l).getD (k / 8) 0 = (pack l)[k / 8] := by simp [List.getD, hl]
    rw [h2]; unfold pack; exact packTo_get _ _ _ _
  rw [e, byteAt_test l (k / 8) (k % 8) (Nat.mod_lt _ (by decide)), show 8 * (k / 8) + k % 8 = k from by omega]

theorem pack_small (l : List Bool) : ∀ x ∈ pack l, x < 256 := by
  intro x hx
  unfold pack packTo at hx
  rw [List.mem_map] at hx
  obtain ⟨i, _, rfl⟩ := hx
  exact byteAt_lt l i

theorem numTo_of (q : List Nat) (rd N W : Nat) (h : ∀ i, i < W → bitQ q (rd + i) = N.testBit (W - 1 - i)) : ∀ i, i ≤ W → numTo q rd i = N / 2 ^ (W - i) % 2 ^ i := by
  intro i
  induction i with
  | zero => intro _; simp [numTo, Nat.mod_one]
  | succ i ih =>
    intro hi
    rw [numTo, ih (by omega), h i (by omega), Nat.testBit_eq_decide_div_mod_eq]
    have e1 : N / 2 ^ (W - i) = N / 2 ^ (W - 1 - i) / 2 := by
      rw [Nat.div_div_eq_div_mul, ← Nat.pow_succ, show (W - 1 - i).succ = W - i from by omega]
    rw [e1, show W - (i + 1) = W - 1 - i from by omega]
    generalize N / 2 ^ (W - 1 - i) = z
    have e2 : z % 2 ^ (i + 1) = 2 * (z / 2 % 2 ^ i) + z % 2 := by
      rw [Nat.pow_succ, Nat.mul_comm (2 ^ i) 2, Nat.mod_mul]
      omega
    rw [e2]
    rcases Nat.mod_two_eq_zero_or_one z with c | c <;> simp [c]

theorem get_ib (its : List (Nat × Nat)) (i j : Nat) (hi : i < its.length) (hj : j < wid its[i]) : get (ib its its.length) ((ib its i).length + j) = its[i].1.testBit (wid its[i] - 1 - j) := by
  have e : ib its its.length = ib its (i + 1) ++ (its.drop (i + 1)).flatMap itemBits := by
    unfold ib
    rw [← List.flatMap_append, List.take_append_drop, List.take_length]
  rw [e, ib_succ its i hi]
  unfold get
  have hl : (ib its i).length + j < (ib its i ++ numBits its[i].1 (wid its[i])).length := by rw [List.length_append, numBits_length]; omega
  rw [List.getD_eq_getElem?_getD, List.getElem?_append_left hl, List.getElem?_append_right (by omega)]
  rw [show (ib its i).length + j - (ib its i).length = j from by omega, List.getElem?_eq_getElem (by rw [numBits_length]; exact hj)]
  simp [numBits_get]

theorem ib_mono (its : List (Nat × Nat)) (i : Nat) (hi : i < its.length) : (ib its i).length + wid its[i] ≤ (ib its its.length).length := by
  have e : ib its its.length = ib its (i + 1) ++ (its.drop (i + 1)).flatMap itemBits := by
    unfold ib
    rw [← List.flatMap_append, List.take_append_drop, List.take_length]
  rw [e, ib_succ its i hi, List.length_append, List.length_append, numBits_length]
  omega

theorem len_nb (n : Nat) : n ≤ 8 * nb n ∧ 8 * nb n < n + 8 := by unfold nb; omega

theorem numTo_item (its : List (Nat × Nat)) (i : Nat) (hi : i < its.length) : numTo (pack (ib its its.length)) (ib its i).length (wid its[i]) = its[i].1 % 2 ^ wid its[i] := by
  have h := numTo_of (pack (ib its its.length)) (ib its i).length its[i].1 (wid its[i]) (fun j hj => by
    have := ib_mono its i hi
    have := (len_nb (ib its its.length).length).1
    rw [bitQ_pack _ _ (by omega), get_ib its i j hi hj]) (wid its[i]) (Nat.le_refl _)
  rw [h, Nat.sub_self, Nat.pow_zero, Nat.div_one]

theorem endB_pack (l : List Bool) : endB (pack l) l.length false = true := by
  have h := len_nb l.length
  unfold endB
  rw [pack_length]
  simp only [Bool.not_false, Bool.true_and, Bool.and_eq_true, decide_eq_true_eq]
  refine ⟨by omega, List.all_eq_true.2 fun j hj => ?_⟩
  have hj := List.mem_range.1 hj
  rw [bitQ_pack _ _ (by omega), get_past (by omega)]; rfl

end Go.Proofs.Ytnnfkehpoeehbaa
